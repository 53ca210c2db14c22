/- Texts of the verifier of shale, laid into one: MoTell, MoFirst. -/
import Derived.Test.YtbngkmlipmhgdaaDoorGreat1
import Derived.Test.YtbngkmlipmhgdaaDoorGreat2
import Derived.Test.YtbngkmlipmhgdaaDoorGreat3
/- Both models told something: what the program's answers, and what waits then. By the verifier of shale. -/
namespace Go.Proofs.YtbngkmlipmhgdaaDoor.Mo
open Go Go.RowKit Bin
set_option linter.unusedVariables false
set_option linter.unusedSimpArgs false
set_option maxRecDepth 100000 in
theorem neq_err (a : Addr) (w : World) : (binOp .neq 26 (errOf a) (errOf a)).run Tryd.prog w = .ok (.bool false) w := by
  obtain ⟨i, hi, hc⟩ := Option.map_eq_some_iff.1 compErr
  obtain ⟨j, hj, _⟩ := Option.map_eq_some_iff.1 sizeErr
  simp only [binOp]
  simp [Op.equal, Op.maxDepth, run_equalIn_iface_ptr_same w 9998 a Tryd.underlying26 Tryd.underlying76 hi hc hj, errOf]
/-- what is answered, and what waits then. -/
inductive Told (f0 f2 : Addr) (n sz : Nat) (key : Int) (tr : Bool) (dn : Nat) (ll : Bs) (L : List (Nat × Bs)) : Value → List (Nat × Bs) → Prop
  | low : key < 0 → Told f0 f2 n sz key tr dn ll L (errOf f0) L
  | high : 0 ≤ key → (n : Int) ≤ key → Told f0 f2 n sz key tr dn ll L (errOf f0) L
  | size : 0 ≤ key → key < (n : Int) → tr = false → dn ≠ sz → Told f0 f2 n sz key tr dn ll L (errOf f2) L
  | yes (k : Nat) : key = (k : Int) → k < n → (tr = true ∨ dn = sz) → Told f0 f2 n sz key tr dn ll L .nilIface (L ++ [(k, if tr then zerosL sz else ll)])
theorem told_ex (f0 f2 : Addr) (n sz : Nat) (key : Int) (tr : Bool) (dn : Nat) (ll : Bs) (L : List (Nat × Bs)) : ∃ F M, Told f0 f2 n sz key tr dn ll L F M := by
  by_cases h0 : key < 0
  · exact ⟨_, _, .low h0⟩
  · by_cases h1 : (n : Int) ≤ key
    · exact ⟨_, _, .high (by omega) h1⟩
    · cases tr
      · by_cases h2 : dn = sz
        · exact ⟨_, _, .yes key.toNat (by omega) (by omega) (.inr h2)⟩
        · exact ⟨_, _, .size (by omega) (by omega) rfl h2⟩
      · exact ⟨_, _, .yes key.toNat (by omega) (by omega) (.inl rfl)⟩
section
variable {base mo xb n sz cb : Nat} {w0 w8 : World} {fx bl dl : List Nat} {T1 T : Nat → Bs} {L1 L : List (Nat × Bs)} {f0 f2 : Addr} {key : Int} {dn : Nat} {ll : Bs} {F : Value} {M : List (Nat × Bs)}
/-- what telling leaves. -/
def TellQ (base : Nat) (w0 : World) (fx : List Nat) (w8 : World) (mo xb n sz : Nat) (T : Nat → Bs) (M L : List (Nat × Bs)) (cb : Nat) (w' : World) : Prop := (∃ bl dl, PM base w0 fx w' mo xb n sz T M T L bl dl cb) ∧ ∀ k ∈ fx, w'.heap[k]? = w8.heap[k]?
theorem TellQ.same (h : PM base w0 fx w8 mo xb n sz T L T L bl dl cb) {w' : World} (b : Below w8.heap.size w8 w') (hc : cb + 1 ≤ 1000) : TellQ base w0 fx w8 mo xb n sz T L L (cb + 1) w' :=
  ⟨⟨bl, dl, (h.below b).more (Nat.le_succ cb) hc⟩, fun k hk => b.block k (h.f k hk).2.1⟩
theorem TellQ.wrote (h : PM base w0 fx w8 mo xb n sz T L T L bl dl cb) {w' : World} (h' : WrotePost w8 mo n sz T M bl dl (cb + 1) w') : TellQ base w0 fx w8 mo xb n sz T M L (cb + 1) w' := by
  obtain ⟨bl', dl', m, t, hd⟩ := h'
  have := h.turn m t hd
  exact ⟨⟨bl', dl', this.1⟩, this.2⟩
theorem tell_trim (h : PM base w0 fx w8 mo xb n sz T L T L bl dl cb) (hc : cb + 1 ≤ 1000) (EN : ErrAt w8 1 f0) (ht : Told f0 f2 n sz key true dn ll L F M) :
    Calls Tryd.prog 11 #[.pointer (some ⟨mo, 0, none⟩), .int .i64 key] w8 fun e w' => e = .returned F ∧ TellQ base w0 fx w8 mo xb n sz T M L (cb + 1) w' := by
  cases ht with
  | low h0 => exact (trim_num h.m key (by omega) EN).mono fun e w' hh => ⟨hh.1, .same h hh.2 hc⟩
  | high h0 h1 => exact (trim_num h.m key (by omega) EN).mono fun e w' hh => ⟨hh.1, .same h hh.2 hc⟩
  | size _ _ h2 _ => cases h2
  | yes k h0 h1 h2 =>
    subst h0
    exact (trim_yes h.m k h1 hc).mono fun e w' hh => ⟨hh.1, .wrote h hh.2⟩
theorem tell_write {a : Option Addr} {c : Nat} (h : PM base w0 fx w8 mo xb n sz T L T L bl dl cb) (hc : cb + 1 ≤ 1000) (EN : ErrAt w8 1 f0) (ES : ErrAt w8 2 f2) (hP : Pol w8 a dn c ll) (ht : Told f0 f2 n sz key false dn ll L F M) :
    Calls Tryd.prog 12 #[.pointer (some ⟨mo, 0, none⟩), .int .i64 key, .slice a dn c] w8 fun e w' => e = .returned F ∧ TellQ base w0 fx w8 mo xb n sz T M L (cb + 1) w' := by
  cases ht with
  | low h0 => exact (write_num h.m key (by omega) a dn c EN).mono fun e w' hh => ⟨hh.1, hh.2 ▸ .same h (Below.refl _ _) hc⟩
  | high h0 h1 => exact (write_num h.m key (by omega) a dn c EN).mono fun e w' hh => ⟨hh.1, hh.2 ▸ .same h (Below.refl _ _) hc⟩
  | size h0 h1 _ h3 => exact (write_size h.m key ⟨h0, h1⟩ a dn c h3 ES).mono fun e w' hh => ⟨hh.1, hh.2 ▸ .same h (Below.refl _ _) hc⟩
  | yes k h0 h1 h2 =>
    subst h0
    rcases h2 with h2 | h2
    · cases h2
    · subst h2
      exact (write_yes h.m k h1 hP hc).mono fun e w' hh => ⟨hh.1, .wrote h hh.2⟩
end
end Go.Proofs.YtbngkmlipmhgdaaDoor.Mo
/- The chapter's examples of a model. By the verifier of shale. -/
namespace Go.Proofs.YtbngkmlipmhgdaaDoor.Mo
open Go Go.RowKit Bin
set_option linter.unusedVariables false
set_option linter.unusedSimpArgs false
attribute [local go_sem] Oper.semAt_some
structure S26 (w wX : World) (zb mo n sz : Nat) (T : Nat → Bs) (L : List (Nat × Bs)) (bl dl : List Nat) (cb : Nat) : Prop where
  b : Below w.heap.size w wX
  z : wX.heap[zb]? = some (.cells #[.bool false] 4 (0, 0))
  m : MoAt wX mo n sz T L bl dl cb
  g : ∀ k ∈ bl, zb < k
  h : zb = w.heap.size
theorem S26.below {w wX wY : World} {zb mo n sz : Nat} {T : Nat → Bs} {L : List (Nat × Bs)} {bl dl : List Nat} {cb : Nat} (s : S26 w wX zb mo n sz T L bl dl cb) (b : Below wX.heap.size wX wY) : S26 w wY zb mo n sz T L bl dl cb :=
  ⟨s.b.trans (b.mono s.b.size), (b.block zb (lt_of_block s.z)).trans s.z, s.m.below b, s.g, s.h⟩
theorem S26.tn {w wX wY : World} {zb mo n sz : Nat} {T T' : Nat → Bs} {L L' : List (Nat × Bs)} {bl dl bl' dl' : List Nat} {cb cb' : Nat} (s : S26 w wX zb mo n sz T L bl dl cb) (t : Tn bl wX wY bl') (m : MoAt wY mo n sz T' L' bl' dl' cb') : S26 w wY zb mo n sz T' L' bl' dl' cb' := by
  have hz := lt_of_block s.z
  have hb := s.b.size
  refine ⟨s.b.trans ⟨t.os, t.tape, t.output, t.size, fun k hk => t.same k (by omega) fun h => ?_⟩, (t.same zb hz fun h => Nat.lt_irrefl _ (s.g zb h)).trans s.z, m, fun k hk => ?_, s.h⟩
  · have := s.g k h; have := s.h; omega
  · rcases t.new k hk with h | h
    · exact s.g k h
    · omega
/-- a literal row of one byte. -/
theorem lit1 (w W : World) (x : BitVec 8) (h : w.alloc (.cells #[.int .u8 (Bits32.b x)] 5 (0, 0)) = W) : Dat W ⟨some (w.heap.size, 0), 1, 1⟩ [x] ∧ Below w.heap.size w W ∧ W.heap.size = w.heap.size + 1 := by
  have hb : Blk8 W w.heap.size [x] := by
    subst h
    exact heap_alloc_new w _
  subst h
  exact ⟨dat_of_blk hb rfl (by omega), (Below.refl _ _).alloc (Nat.le_refl _) _, by simp⟩
/-- a literal list of two rows of one byte. -/
theorem lit2 (w W : World) (x y : BitVec 8) (h : ((w.alloc (.cells #[.int .u8 (Bits32.b x)] 5 (0, 0))).alloc (.cells #[.int .u8 (Bits32.b y)] 5 (0, 0))).alloc (.cells #[.slice (some ⟨w.heap.size, 0, none⟩) 1 1, .slice (some ⟨w.heap.size + 1, 0, none⟩) 1 1] 31 (0, 0)) = W) :
    LstAt W (some ⟨w.heap.size + 1 + 1, 0, none⟩) 2 (fun j => if j = 0 then [x] else [y]) ∧ Below w.heap.size w W := by
  generalize h1 : w.alloc (.cells #[.int .u8 (Bits32.b x)] 5 (0, 0)) = w1 at h
  obtain ⟨d1, b1, s1⟩ := lit1 w w1 x h1
  generalize h2 : w1.alloc (.cells #[.int .u8 (Bits32.b y)] 5 (0, 0)) = w2 at h
  obtain ⟨d2, b2, s2⟩ := lit1 w1 w2 y h2
  have k3 : W.heap[w2.heap.size]? = some (.cells #[.slice (some ⟨w.heap.size, 0, none⟩) 1 1, .slice (some ⟨w.heap.size + 1, 0, none⟩) 1 1] 31 (0, 0)) := by rw [← h]; exact heap_alloc_new w2 _
  have b3 : Below w2.heap.size w2 W := by rw [← h]; exact (Below.refl _ _).alloc (Nat.le_refl _) _
  refine ⟨fun i hi => ?_, (b1.trans (b2.mono b1.size)).trans (b3.mono (by omega))⟩
  have c := two_cells k3
  rw [← s1, ← s2]
  have hi2 : i = 0 ∨ i = 1 := by omega
  rcases hi2 with rfl | rfl
  · exact ⟨_, 0, ⟨some (w.heap.size, 0), 1, 1⟩, rfl, lt_of_block k3, c.1, (d1.below b2).below b3⟩
  · exact ⟨_, 0, ⟨some (w1.heap.size, 0), 1, 1⟩, rfl, lt_of_block k3, by rw [← s1] at c; exact c.2.1, d2.below b3⟩
theorem res_first {tmps : Array Value} {w : World} {g : Nat} {v : Bool} (hp : tmps.getD 0 undef = .pointer (some ⟨g, 0, none⟩)) (hc : w.cell? ⟨g, 0, none⟩ = some (.bool v)) : (results Tryd.f5 tmps).run Tryd.prog w = .ok (.bool v) w := by
  have hp' : tmps[0]?.getD undef = .pointer (some ⟨g, 0, none⟩) := by simpa using hp
  simp [results, Tryd.results5, hp', asAddr, go_sem, hc]
def T0 : Nat → Bs := fun _ => zerosL 1
def L2 : List (Nat × Bs) := [(0, [5]), (0, [6])]
set_option maxRecDepth 100000 in
set_option maxHeartbeats 4000000 in
theorem first26_any (w : World) : Calls Tryd.prog 5 #[] w fun e w' => e = .returned (.bool true) ∧ Below w.heap.size w w' := by
  refine (callsIn_wide (n := 3)).1 ?_
  refine callsIn_of_wp_marks Tryd.func5 rfl trivial ?_ rfl
  simp only [Tryd.ntmps5, List.size_toArray, List.length_cons, List.length_nil, Nat.reduceAdd, Nat.reduceSub, Array.replicate_succ, Array.replicate_zero, List.push_toArray, List.append_toArray, List.nil_append, List.cons_append]
  refine wpIn_wide.2 ?_
  go_upto_region 1 with (fail)
  generalize hw : w.alloc (.cells #[.bool false] 4 (0, 0)) = w1
  obtain ⟨z1, b1, s1⟩ := newC hw
  clear hw
  obtain ⟨zb, hzb⟩ : ∃ zb, zb = w.heap.size := ⟨_, rfl⟩
  rw [← hzb] at z1 ⊢
  go_wp2_with fail
  refine (new_yes 2 1 (by omega) (by omega) (by omega) (by omega) w1).mono ?_
  rintro e w2 ⟨mo, bl, rfl, m2, b2, g2⟩
  have HS : Hid (S26 w w2 zb mo 2 1 T0 [] bl [] 0) := ⟨by have := b1.trans (b2.mono b1.size); exact this, (b2.block zb (lt_of_block z1)).trans z1, m2, fun k hk => by have := g2 k hk; omega, hzb⟩
  clear z1 b1 s1 hzb m2 b2 g2
  go_wp2_with fail
  generalize hw : w2.alloc (.cells #[.int .u8 5] 5 (0, 0)) = w3
  obtain ⟨d3, b3, -⟩ := lit1 w2 w3 5 hw
  clear hw
  replace HS := Lib.hid (HS.out.below b3)
  have HW := Lib.hid (write_yes HS.out.m 0 (by omega) d3 (by omega))
  clear d3 b3
  refine HW.out.mono ?_
  rintro e w4 ⟨rfl, bl4, dl4, m4, t4, -⟩
  replace HS := Lib.hid (HS.out.tn t4 m4)
  clear HW m4 t4
  go_wp2_with fail
  generalize hw : w4.alloc (.cells #[.int .u8 6] 5 (0, 0)) = w5
  obtain ⟨d3, b3, -⟩ := lit1 w4 w5 6 hw
  clear hw
  replace HS := Lib.hid (HS.out.below b3)
  have HW := Lib.hid (write_yes HS.out.m 0 (by omega) d3 (by omega))
  clear d3 b3
  refine HW.out.mono ?_
  rintro e w6 ⟨rfl, bl6, dl6, m6, t6, -⟩
  have HS6 : Hid (S26 w w6 zb mo 2 1 T0 L2 bl6 dl6 2) := HS.out.tn t6 m6
  clear HW m6 t6 HS
  go_wp2_with fail
  generalize hw : w6.alloc (.cells #[.int .i64 0] 3 (0, 0)) = w7
  obtain ⟨n7, b7, s7⟩ := newC hw
  clear hw
  obtain ⟨nb, hnb⟩ : ∃ nb, nb = w6.heap.size := ⟨_, rfl⟩
  rw [← hnb] at n7 ⊢
  refine (fronts_any mo w7).mono ?_
  rintro e w8 ⟨rfl, hcb, b8⟩
  obtain ⟨cb, hcbe⟩ : ∃ cb, cb = w7.heap.size := ⟨_, rfl⟩
  rw [← hcbe] at hcb ⊢
  have HS8 := Lib.hid ((HS6.out.below b7).below b8)
  have H8 : Hid (w8.heap[nb]? = some (.cells #[.int .i64 0] 3 (0, 0)) ∧ w8.heap[cb]? = some (.cells #[.pointer (some ⟨mo, 0, none⟩)] 24 (0, 0)) ∧ nb ≠ cb ∧ zb < nb ∧ (∀ k, k ∈ bl6 ∨ k ∈ dl6 → k < nb)) := by
    refine ⟨(b8.block nb (lt_of_block n7)).trans n7, hcb, by omega, by have := lt_of_block HS6.out.z; omega, fun k hk => by have := HS6.out.m.lt k hk; omega⟩
  clear n7 b7 s7 hnb hcb b8 hcbe HS6
  go_wp2_with fail
  refine wpIn_wide.1 (range_giftM (n := 3) (gf := 28) (lb := #[.pointer (some ⟨cb, 0, none⟩)]) rfl (enters_of Tryd.func28 (by kernel_rfl) rfl)
    (encs := encF 2) (fun _ => rfl) (gift := gift 2) (V := VF 2 1 T0 L2 w8.heap.size) [] (M := MF mo cb 2 1) (C := FindsF mo cb 2 1 T0 L2 bl6 dl6 2)
    (fun pre bl' W => bl' = [nb] ∧ W.heap[nb]? = some (.cells #[.int .i64 (pre.length : Int)] 3 (0, 0)) ∧ Tn [nb] w8 W [nb]) (fun _ _ _ _ => False) ?_ ?_ ?_ ?_ (bl0 := [nb]) ?_ ?_ vf_gift vf_lt vf_same
    (fronts_iter 2 w8.heap.size mo cb 2 1 T0 L2 bl6 dl6 2)
    ?a1_s (fun x W0 => W0) ?_ ?assign_s ?body_s ?done_s ?stop_s)
  case assign_s =>
    intro l q W K hK
    have HK := Lib.hid hK
    clear hK
    gi_wp2
    exact HK.out
  · rintro pre bl' X Y ⟨rfl, h1, h2⟩ f
    refine ⟨rfl, (f.same nb (.inr (by simp)) (lt_of_block h1)).trans h1, ⟨f.os.trans h2.os, f.tape.trans h2.tape, f.output.trans h2.output, Nat.le_trans h2.size f.size, fun k hk hn => (f.same k (.inl ⟨hk, by simp⟩) (Nat.lt_of_lt_of_le hk h2.size)).trans (h2.same k hk hn), h2.new⟩⟩
  · rintro cde pre bl' X Y h f
    exact h.elim
  · rintro pre bl' X ⟨rfl, h1, _⟩ k hk
    rw [List.mem_singleton.1 hk]; exact lt_of_block h1
  · rintro pre bl' X ⟨rfl, h1, h2⟩
    exact (HS8.out.m.tn h2 fun k hk hm => by have := H8.out.2.2.2.2 k hk; rw [List.mem_singleton.1 hm] at this; omega).mf ((h2.same cb (lt_of_block H8.out.2.1) (by rw [List.mem_singleton]; exact Ne.symm H8.out.2.2.1)).trans H8.out.2.1)
  · exact ⟨rfl, H8.out.1, Tn.refl _ _⟩
  · intro W hW
    refine ⟨HS8.out.m.below hW, (hW.block cb (lt_of_block H8.out.2.1)).trans H8.out.2.1, fun k hk hm => ?_⟩
    have h1 := H8.out.2.2.2.2 k (.inr hk)
    have h2 := lt_of_block H8.out.1
    simp only [List.mem_cons, List.not_mem_nil, or_false] at hm
    omega
  · intro q W
    exact Below.refl _ _
  case body_s =>
    rintro l pre bl' ⟨k, og, kb⟩ W0 W hB0 hsz hW hbl hgf ⟨rfl, h1, h2⟩ ⟨hV1, hV2, hV3, hV4, hV5⟩
    have hk : pre.length = k := Eq.symm hV1
    have hk2 : k ≤ 2 := hV2
    have hA : AllS W og 2 1 kb (app T0 (L2.take k)) := hV3
    have hgl := gift_lt (x := ⟨k, og, kb⟩) hA
    rw [hk] at h1
    have c1 := cell_of_one h1
    have c2 := free_of_one h1
    have c3 : W.cell? ⟨og, 0, none⟩ = some (.slice (some ⟨kb 0, 0, none⟩) 1 1) := by rw [(cell_list hA.1 0).1]; rfl
    have hb0 := (hA.2.1 0 (by omega)).1
    have HN : Hid (∀ W', Below W.heap.size W W' → ∃ bl', Tn (gift 2 ⟨k, og, kb⟩ ++ [nb]) W (W'.setCell ⟨nb, 0, none⟩ (.int .i64 ((k : Int) + 1))) bl' ∧ bl' = [nb] ∧ (W'.setCell ⟨nb, 0, none⟩ (.int .i64 ((k : Int) + 1))).heap[nb]? = some (.cells #[.int .i64 ((pre ++ [(⟨k, og, kb⟩ : Fd)]).length : Int)] 3 (0, 0)) ∧ Tn [nb] w8 (W'.setCell ⟨nb, 0, none⟩ (.int .i64 ((k : Int) + 1))) [nb]) := fun W' b => by
      have t1 : Tn [nb] W (W'.setCell ⟨nb, 0, none⟩ (.int .i64 ((k : Int) + 1))) [nb] := (Tn.below b).trans (Tn.setCell W' ⟨nb, 0, none⟩ _ (by simp))
      refine ⟨[nb], ⟨t1.os, t1.tape, t1.output, t1.size, fun z hz hn => t1.same z hz fun h => hn (List.mem_append_right _ h), fun z hz => .inl (List.mem_append_right _ hz)⟩, rfl, ?_, h2.trans t1⟩
      rw [List.length_append, hk]
      exact heap_setCell_same W' nb 0 _ _ _ ((b.block nb (lt_of_block h1)).trans h1)
    have HK1 : Hid (∀ W', Below W.heap.size W W' → W'.cell? ⟨nb, 0, none⟩ = some (.int .i64 (k : Int)) ∧ W'.frozen? ⟨nb, 0, none⟩ = false) := fun W' b => by
      have h := (b.block nb (lt_of_block h1)).trans h1
      exact ⟨cell_of_one h, free_of_one h⟩
    clear h1 h2 hV1 hV2 hV3 hV4 hV5 hB0 hsz hW hbl hgf hgl
    have hk3 : k = 0 ∨ k = 1 ∨ k = 2 := by omega
    rcases hk3 with rfl | rfl | rfl
    · have c4 : W.cell? ⟨kb 0, 0, none⟩ = some (.int .u8 0) := hb0.cell (i := 0) (by decide)
      have HSA : Hid (∀ X : World, (X.cell? ⟨nb, 0, none⟩ = some (.int .i64 0) ∧ X.cell? ⟨og, 0, none⟩ = some (.slice (some ⟨kb 0, 0, none⟩) 1 1) ∧ X.cell? ⟨kb 0, 0, none⟩ = some (.int .u8 0)) → ((X.alloc (.cells #[.int .i64 0, .int .i64 5, .int .i64 6] 3 (0, 0))).cell? ⟨nb, 0, none⟩ = some (.int .i64 0) ∧ (X.alloc (.cells #[.int .i64 0, .int .i64 5, .int .i64 6] 3 (0, 0))).cell? ⟨og, 0, none⟩ = some (.slice (some ⟨kb 0, 0, none⟩) 1 1) ∧ (X.alloc (.cells #[.int .i64 0, .int .i64 5, .int .i64 6] 3 (0, 0))).cell? ⟨kb 0, 0, none⟩ = some (.int .u8 0))) := fun X h => ⟨Lib.cell?_alloc_some _ h.1, Lib.cell?_alloc_some _ h.2.1, Lib.cell?_alloc_some _ h.2.2⟩
      have HS0 : W.drew.cell? ⟨nb, 0, none⟩ = some (.int .i64 0) ∧ W.drew.cell? ⟨og, 0, none⟩ = some (.slice (some ⟨kb 0, 0, none⟩) 1 1) ∧ W.drew.cell? ⟨kb 0, 0, none⟩ = some (.int .u8 0) := ⟨c1, c3, c4⟩
      clear hb0 hk hk2 hA c1 c2 c3 c4
      gi_wp2
      refine wpIn_round_held (S := fun X => X.cell? ⟨nb, 0, none⟩ = some (.int .i64 0) ∧ X.cell? ⟨og, 0, none⟩ = some (.slice (some ⟨kb 0, 0, none⟩) 1 1) ∧ X.cell? ⟨kb 0, 0, none⟩ = some (.int .u8 0)) (by kernel_rfl) (by kernel_rfl) (fun h => by obtain ⟨_, _, h⟩ := h; exact h) HS0 (fun hHeld => ?_)
      refine wpAnyH_take (i := 0) (oi := ({ dst := some 30, op := Go.Op.move (Go.Operand.tmp 4), type := 3, pos := "law.go:29", after := #[], guard := none } : Oper)) (v := ?_) rfl (by kernel_rfl) (by kernel_rfl) (by kernel_rfl) (fun _ _ _ h => h) (Or.inl ⟨by rfl, ?_⟩) (by assumption) ?_
      rotate_left
      focus (intro w hSw; (try dsimp only at hSw); go_simp; try with_reducible rfl)
      try simp only [Act.put, List.setIfInBounds_toArray, List.set_cons_zero, List.set_cons_succ]
      refine wpAnyH_take (i := 1) (oi := ({ dst := some 31, op := Go.Op.load 3 (Go.Operand.tmp 3), type := 3, pos := "law.go:29", after := #[], guard := none } : Oper)) (v := ?_) rfl (by kernel_rfl) (by kernel_rfl) (by kernel_rfl) (fun _ _ _ h => h) (Or.inl ⟨by rfl, ?_⟩) (by assumption) ?_
      rotate_left
      focus (intro w hSw; (try dsimp only at hSw); go_simp; try with_reducible rfl)
      try simp only [Act.put, List.setIfInBounds_toArray, List.set_cons_zero, List.set_cons_succ]
      refine wpAnyH_take (i := 2) (oi := ({ dst := some 32, op := Go.Op.binOp Go.BinOp.neq 3 (Go.Operand.tmp 30) (Go.Operand.tmp 31) 3, type := 4, pos := "law.go:29", after := #[{ on := 0, ground := Go.Ground.data }, { on := 1, ground := Go.Ground.data }], guard := none } : Oper)) (v := ?_) rfl (by kernel_rfl) (by kernel_rfl) (by kernel_rfl) (fun _ _ _ h => h) (Or.inl ⟨by rfl, ?_⟩) (by assumption) ?_
      rotate_left
      focus (intro w hSw; (try dsimp only at hSw); go_simp; try with_reducible rfl)
      try simp only [Act.put, List.setIfInBounds_toArray, List.set_cons_zero, List.set_cons_succ]
      refine wpAnyH_take (i := 3) (oi := ({ dst := some 33, op := Go.Op.move (Go.Operand.tmp 32), type := 4, pos := "law.go:29", after := #[{ on := 2, ground := Go.Ground.data }], guard := none } : Oper)) (v := ?_) rfl (by kernel_rfl) (by kernel_rfl) (by kernel_rfl) (fun _ _ _ h => h) (Or.inl ⟨by rfl, ?_⟩) (by assumption) ?_
      rotate_left
      focus (intro w hSw; (try dsimp only at hSw); go_simp; try with_reducible rfl)
      try simp only [Act.put, List.setIfInBounds_toArray, List.set_cons_zero, List.set_cons_succ]
      refine wpAnyH_take (i := 4) (oi := ({ dst := some 34, op := Go.Op.move (Go.Operand.tmp 5), type := 36, pos := "law.go:29", after := #[{ on := 3, ground := Go.Ground.guard }], guard := some (3, false) } : Oper)) (v := ?_) rfl (by kernel_rfl) (by kernel_rfl) (by kernel_rfl) (fun _ _ _ h => h) (Or.inl ⟨by rfl, ?_⟩) (by assumption) ?_
      rotate_left
      focus (intro w hSw; (try dsimp only at hSw); go_simp; try with_reducible rfl)
      try simp only [Act.put, List.setIfInBounds_toArray, List.set_cons_zero, List.set_cons_succ]
      refine wpAnyH_take (i := 5) (oi := ({ dst := some 35, op := Go.Op.call { callee := Go.Callee.builtin Go.Builtin.len, args := #[Go.Operand.tmp 34], argTypes := #[36] }, type := 3, pos := "law.go:29", after := #[{ on := 4, ground := Go.Ground.data }, { on := 3, ground := Go.Ground.guard }], guard := some (3, false) } : Oper)) (v := ?_) rfl (by kernel_rfl) (by kernel_rfl) (by kernel_rfl) (fun _ _ _ h => h) (Or.inl ⟨by rfl, ?_⟩) (by assumption) ?_
      rotate_left
      focus (intro w hSw; (try dsimp only at hSw); go_simp; try with_reducible rfl)
      try simp only [Act.put, List.setIfInBounds_toArray, List.set_cons_zero, List.set_cons_succ]
      refine wpAnyH_take (i := 6) (oi := ({ dst := some 36, op := Go.Op.binOp Go.BinOp.neq 3 (Go.Operand.tmp 35) (Go.Operand.const (Go.Value.int Go.IntKind.i64 2)) 3, type := 4, pos := "law.go:29", after := #[{ on := 5, ground := Go.Ground.data }, { on := 3, ground := Go.Ground.guard }], guard := some (3, false) } : Oper)) (v := ?_) rfl (by kernel_rfl) (by kernel_rfl) (by kernel_rfl) (fun _ _ _ h => h) (Or.inl ⟨by rfl, ?_⟩) (by assumption) ?_
      rotate_left
      focus (intro w hSw; (try dsimp only at hSw); go_simp; try with_reducible rfl)
      try simp only [Act.put, List.setIfInBounds_toArray, List.set_cons_zero, List.set_cons_succ]
      refine wpAnyH_take (i := 7) (oi := ({ dst := some 37, op := Go.Op.pick (Go.Operand.tmp 33) (Go.Operand.const (Go.Value.bool true)) (Go.Operand.tmp 36), type := 4, pos := "law.go:29", after := #[{ on := 3, ground := Go.Ground.data }, { on := 6, ground := Go.Ground.data }], guard := none } : Oper)) (v := ?_) rfl (by kernel_rfl) (by kernel_rfl) (by kernel_rfl) (fun _ _ _ h => h) (Or.inl ⟨by rfl, ?_⟩) (by assumption) ?_
      rotate_left
      focus (intro w hSw; (try dsimp only at hSw); go_simp; try with_reducible rfl)
      try simp only [Act.put, List.setIfInBounds_toArray, List.set_cons_zero, List.set_cons_succ]
      refine wpAnyH_take (i := 8) (oi := ({ dst := some 38, op := Go.Op.move (Go.Operand.tmp 37), type := 4, pos := "law.go:29", after := #[{ on := 7, ground := Go.Ground.data }, { on := 3, ground := Go.Ground.chain }], guard := none } : Oper)) (v := ?_) rfl (by kernel_rfl) (by kernel_rfl) (by kernel_rfl) (fun _ _ _ h => h) (Or.inl ⟨by rfl, ?_⟩) (by assumption) ?_
      rotate_left
      focus (intro w hSw; (try dsimp only at hSw); go_simp; try with_reducible rfl)
      try simp only [Act.put, List.setIfInBounds_toArray, List.set_cons_zero, List.set_cons_succ]
      refine wpAnyH_take (i := 9) (oi := ({ dst := some 39, op := Go.Op.move (Go.Operand.tmp 5), type := 36, pos := "law.go:29", after := #[{ on := 8, ground := Go.Ground.guard }], guard := some (8, false) } : Oper)) (v := ?_) rfl (by kernel_rfl) (by kernel_rfl) (by kernel_rfl) (fun _ _ _ h => h) (Or.inl ⟨by rfl, ?_⟩) (by assumption) ?_
      rotate_left
      focus (intro w hSw; (try dsimp only at hSw); go_simp; try with_reducible rfl)
      try simp only [Act.put, List.setIfInBounds_toArray, List.set_cons_zero, List.set_cons_succ]
      refine wpAnyH_take (i := 10) (oi := ({ dst := some 40, op := Go.Op.indexAddr 36 (Go.Operand.tmp 39) (Go.Operand.const (Go.Value.int Go.IntKind.i64 0)), type := 0, pos := "law.go:29", after := #[{ on := 9, ground := Go.Ground.data }, { on := 8, ground := Go.Ground.guard }], guard := some (8, false) } : Oper)) (v := ?_) rfl (by kernel_rfl) (by kernel_rfl) (by kernel_rfl) (fun _ _ _ h => h) (Or.inl ⟨by rfl, ?_⟩) (by assumption) ?_
      rotate_left
      focus (intro w hSw; (try dsimp only at hSw); go_simp; try with_reducible rfl)
      try simp only [Act.put, List.setIfInBounds_toArray, List.set_cons_zero, List.set_cons_succ]
      refine wpAnyH_take (i := 11) (oi := ({ dst := some 41, op := Go.Op.load 31 (Go.Operand.tmp 40), type := 31, pos := "law.go:29", after := #[{ on := 10, ground := Go.Ground.data }, { on := 8, ground := Go.Ground.guard }], guard := some (8, false) } : Oper)) (v := ?_) rfl (by kernel_rfl) (by kernel_rfl) (by kernel_rfl) (fun _ _ _ h => h) (Or.inl ⟨by rfl, ?_⟩) (by assumption) ?_
      rotate_left
      focus (intro w hSw; (try dsimp only at hSw); go_simp; try with_reducible rfl)
      try simp only [Act.put, List.setIfInBounds_toArray, List.set_cons_zero, List.set_cons_succ]
      refine wpAnyH_take (i := 12) (oi := ({ dst := some 42, op := Go.Op.indexAddr 31 (Go.Operand.tmp 41) (Go.Operand.const (Go.Value.int Go.IntKind.i64 0)), type := 0, pos := "law.go:29", after := #[{ on := 11, ground := Go.Ground.data }, { on := 8, ground := Go.Ground.guard }], guard := some (8, false) } : Oper)) (v := ?_) rfl (by kernel_rfl) (by kernel_rfl) (by kernel_rfl) (fun _ _ _ h => h) (Or.inl ⟨by rfl, ?_⟩) (by assumption) ?_
      rotate_left
      focus (intro w hSw; (try dsimp only at hSw); go_simp; try with_reducible rfl)
      try simp only [Act.put, List.setIfInBounds_toArray, List.set_cons_zero, List.set_cons_succ]
      refine wpAnyH_take (i := 13) (oi := ({ dst := some 43, op := Go.Op.load 5 (Go.Operand.tmp 42), type := 5, pos := "law.go:29", after := #[{ on := 12, ground := Go.Ground.data }, { on := 8, ground := Go.Ground.guard }], guard := some (8, false) } : Oper)) (v := ?_) rfl (by kernel_rfl) (by kernel_rfl) (by kernel_rfl) (fun _ _ _ h => h) (Or.inl ⟨by rfl, ?_⟩) (by assumption) ?_
      rotate_left
      focus (intro w hSw; (try dsimp only at hSw); go_simp; try with_reducible rfl)
      try simp only [Act.put, List.setIfInBounds_toArray, List.set_cons_zero, List.set_cons_succ]
      refine wpAnyH_take (i := 14) (oi := ({ dst := some 44, op := Go.Op.convert 5 3 (Go.Operand.tmp 43), type := 3, pos := "law.go:29", after := #[{ on := 13, ground := Go.Ground.data }, { on := 8, ground := Go.Ground.guard }], guard := some (8, false) } : Oper)) (v := ?_) rfl (by kernel_rfl) (by kernel_rfl) (by kernel_rfl) (fun _ _ _ h => h) (Or.inl ⟨by rfl, ?_⟩) (by assumption) ?_
      rotate_left
      focus (intro w hSw; (try dsimp only at hSw); go_simp; try with_reducible rfl)
      try simp only [Act.put, List.setIfInBounds_toArray, List.set_cons_zero, List.set_cons_succ]
      refine wpAnyH_take (i := 16) (oi := ({ dst := some 46, op := Go.Op.move (Go.Operand.tmp 4), type := 3, pos := "law.go:29", after := #[{ on := 8, ground := Go.Ground.guard }], guard := some (8, false) } : Oper)) (v := ?_) rfl (by kernel_rfl) (by kernel_rfl) (by kernel_rfl) (fun _ _ _ h => h) (Or.inl ⟨by rfl, ?_⟩) (by assumption) ?_
      rotate_left
      focus (intro w hSw; (try dsimp only at hSw); go_simp; try with_reducible rfl)
      try simp only [Act.put, List.setIfInBounds_toArray, List.set_cons_zero, List.set_cons_succ]
      refine wpAnyH_ready (rs := [15]) (by kernel_rfl) (by simp) ?_
      refine AllReadyH.cons (o := ({ dst := some 45, op := Go.Op.buildSlice 58 3 #[(0, Go.Operand.const (Go.Value.int Go.IntKind.i64 0)), (1, Go.Operand.const (Go.Value.int Go.IntKind.i64 5)), (2, Go.Operand.const (Go.Value.int Go.IntKind.i64 6))], type := 58, pos := "law.go:29", after := #[{ on := 8, ground := Go.Ground.guard }], guard := some (8, false) } : Oper)) rfl (fun K hK => ?_) AllReadyH.nil
      go_simp
      refine hK.out _ _ ?_ (fun hHeld => ?_)
      · first | assumption | exact HSA.out _ (by assumption)
      clear hK K
      try simp only [Act.put, List.setIfInBounds_toArray, List.set_cons_zero, List.set_cons_succ]
      refine wpAnyH_take (i := 17) (oi := ({ dst := some 47, op := Go.Op.indexAddr 58 (Go.Operand.tmp 45) (Go.Operand.tmp 46), type := 0, pos := "law.go:29", after := #[{ on := 15, ground := Go.Ground.data }, { on := 16, ground := Go.Ground.data }, { on := 8, ground := Go.Ground.guard }], guard := some (8, false) } : Oper)) (v := ?_) rfl (by kernel_rfl) (by kernel_rfl) (by kernel_rfl) (fun _ _ _ h => h) (Or.inl ⟨by rfl, ?_⟩) (by assumption) ?_
      rotate_left
      focus (intro w hSw; (try dsimp only at hSw); go_simp; try with_reducible rfl)
      try simp only [Act.put, List.setIfInBounds_toArray, List.set_cons_zero, List.set_cons_succ]
      refine wpAnyH_ready (rs := [18]) (by kernel_rfl) (by simp) ?_
      refine AllReadyH.cons (o := ({ dst := some 48, op := Go.Op.load 3 (Go.Operand.tmp 47), type := 3, pos := "law.go:29", after := #[{ on := 17, ground := Go.Ground.data }, { on := 8, ground := Go.Ground.guard }], guard := some (8, false) } : Oper)) rfl (fun K hK => ?_) AllReadyH.nil
      go_simp
      refine hK.out _ _ ?_ (fun hHeld => ?_)
      · first | assumption | exact HSA.out _ (by assumption)
      clear hK K
      try simp only [Act.put, List.setIfInBounds_toArray, List.set_cons_zero, List.set_cons_succ]
      refine wpAnyH_take (i := 19) (oi := ({ dst := some 49, op := Go.Op.binOp Go.BinOp.neq 3 (Go.Operand.tmp 44) (Go.Operand.tmp 48) 3, type := 4, pos := "law.go:29", after := #[{ on := 14, ground := Go.Ground.data }, { on := 18, ground := Go.Ground.data }, { on := 8, ground := Go.Ground.guard }], guard := some (8, false) } : Oper)) (v := ?_) rfl (by kernel_rfl) (by kernel_rfl) (by kernel_rfl) (fun _ _ _ h => h) (Or.inl ⟨by rfl, ?_⟩) (by assumption) ?_
      rotate_left
      focus (intro w hSw; (try dsimp only at hSw); go_simp; try with_reducible rfl)
      try simp only [Act.put, List.setIfInBounds_toArray, List.set_cons_zero, List.set_cons_succ]
      refine wpAnyH_take (i := 20) (oi := ({ dst := some 50, op := Go.Op.pick (Go.Operand.tmp 38) (Go.Operand.const (Go.Value.bool true)) (Go.Operand.tmp 49), type := 4, pos := "law.go:29", after := #[{ on := 8, ground := Go.Ground.data }, { on := 19, ground := Go.Ground.data }], guard := none } : Oper)) (v := ?_) rfl (by kernel_rfl) (by kernel_rfl) (by kernel_rfl) (fun _ _ _ h => h) (Or.inl ⟨by rfl, ?_⟩) (by assumption) ?_
      rotate_left
      focus (intro w hSw; (try dsimp only at hSw); go_simp; try with_reducible rfl)
      try simp only [Act.put, List.setIfInBounds_toArray, List.set_cons_zero, List.set_cons_succ]
      refine wpAnyH_done (by kernel_rfl) ?_ _
      have bW : Below W.heap.size W ((W.alloc (.cells #[.int .i64 0, .int .i64 5, .int .i64 6] 3 (0, 0))).drew) := (((Below.refl _ _).alloc (Nat.le_refl _) _).drew)
      generalize (W.alloc (.cells #[.int .i64 0, .int .i64 5, .int .i64 6] 3 (0, 0))).drew = W5 at bW ⊢
      obtain ⟨c1, c2⟩ := HK1.out W5 bW
      have c1' : W5.cell? ⟨nb, 0, none⟩ = some (.int .i64 0) := c1
      have hF := HN.out W5 bW
      rw [show ((0 : Nat) : Int) + 1 = 1 from rfl] at hF
      have HF := Lib.hid hF
      clear bW HS0 HSA HN HK1 c1 hF
      gi_wp2
      exact HF.out
    · have c4 : W.cell? ⟨kb 0, 0, none⟩ = some (.int .u8 5) := hb0.cell (i := 0) (by decide)
      have HSA : Hid (∀ X : World, (X.cell? ⟨nb, 0, none⟩ = some (.int .i64 1) ∧ X.cell? ⟨og, 0, none⟩ = some (.slice (some ⟨kb 0, 0, none⟩) 1 1) ∧ X.cell? ⟨kb 0, 0, none⟩ = some (.int .u8 5)) → ((X.alloc (.cells #[.int .i64 0, .int .i64 5, .int .i64 6] 3 (0, 0))).cell? ⟨nb, 0, none⟩ = some (.int .i64 1) ∧ (X.alloc (.cells #[.int .i64 0, .int .i64 5, .int .i64 6] 3 (0, 0))).cell? ⟨og, 0, none⟩ = some (.slice (some ⟨kb 0, 0, none⟩) 1 1) ∧ (X.alloc (.cells #[.int .i64 0, .int .i64 5, .int .i64 6] 3 (0, 0))).cell? ⟨kb 0, 0, none⟩ = some (.int .u8 5))) := fun X h => ⟨Lib.cell?_alloc_some _ h.1, Lib.cell?_alloc_some _ h.2.1, Lib.cell?_alloc_some _ h.2.2⟩
      have HS0 : W.drew.cell? ⟨nb, 0, none⟩ = some (.int .i64 1) ∧ W.drew.cell? ⟨og, 0, none⟩ = some (.slice (some ⟨kb 0, 0, none⟩) 1 1) ∧ W.drew.cell? ⟨kb 0, 0, none⟩ = some (.int .u8 5) := ⟨c1, c3, c4⟩
      clear hb0 hk hk2 hA c1 c2 c3 c4
      gi_wp2
      refine wpIn_round_held (S := fun X => X.cell? ⟨nb, 0, none⟩ = some (.int .i64 1) ∧ X.cell? ⟨og, 0, none⟩ = some (.slice (some ⟨kb 0, 0, none⟩) 1 1) ∧ X.cell? ⟨kb 0, 0, none⟩ = some (.int .u8 5)) (by kernel_rfl) (by kernel_rfl) (fun h => by obtain ⟨_, _, h⟩ := h; exact h) HS0 (fun hHeld => ?_)
      refine wpAnyH_take (i := 0) (oi := ({ dst := some 30, op := Go.Op.move (Go.Operand.tmp 4), type := 3, pos := "law.go:29", after := #[], guard := none } : Oper)) (v := ?_) rfl (by kernel_rfl) (by kernel_rfl) (by kernel_rfl) (fun _ _ _ h => h) (Or.inl ⟨by rfl, ?_⟩) (by assumption) ?_
      rotate_left
      focus (intro w hSw; (try dsimp only at hSw); go_simp; try with_reducible rfl)
      try simp only [Act.put, List.setIfInBounds_toArray, List.set_cons_zero, List.set_cons_succ]
      refine wpAnyH_take (i := 1) (oi := ({ dst := some 31, op := Go.Op.load 3 (Go.Operand.tmp 3), type := 3, pos := "law.go:29", after := #[], guard := none } : Oper)) (v := ?_) rfl (by kernel_rfl) (by kernel_rfl) (by kernel_rfl) (fun _ _ _ h => h) (Or.inl ⟨by rfl, ?_⟩) (by assumption) ?_
      rotate_left
      focus (intro w hSw; (try dsimp only at hSw); go_simp; try with_reducible rfl)
      try simp only [Act.put, List.setIfInBounds_toArray, List.set_cons_zero, List.set_cons_succ]
      refine wpAnyH_take (i := 2) (oi := ({ dst := some 32, op := Go.Op.binOp Go.BinOp.neq 3 (Go.Operand.tmp 30) (Go.Operand.tmp 31) 3, type := 4, pos := "law.go:29", after := #[{ on := 0, ground := Go.Ground.data }, { on := 1, ground := Go.Ground.data }], guard := none } : Oper)) (v := ?_) rfl (by kernel_rfl) (by kernel_rfl) (by kernel_rfl) (fun _ _ _ h => h) (Or.inl ⟨by rfl, ?_⟩) (by assumption) ?_
      rotate_left
      focus (intro w hSw; (try dsimp only at hSw); go_simp; try with_reducible rfl)
      try simp only [Act.put, List.setIfInBounds_toArray, List.set_cons_zero, List.set_cons_succ]
      refine wpAnyH_take (i := 3) (oi := ({ dst := some 33, op := Go.Op.move (Go.Operand.tmp 32), type := 4, pos := "law.go:29", after := #[{ on := 2, ground := Go.Ground.data }], guard := none } : Oper)) (v := ?_) rfl (by kernel_rfl) (by kernel_rfl) (by kernel_rfl) (fun _ _ _ h => h) (Or.inl ⟨by rfl, ?_⟩) (by assumption) ?_
      rotate_left
      focus (intro w hSw; (try dsimp only at hSw); go_simp; try with_reducible rfl)
      try simp only [Act.put, List.setIfInBounds_toArray, List.set_cons_zero, List.set_cons_succ]
      refine wpAnyH_take (i := 4) (oi := ({ dst := some 34, op := Go.Op.move (Go.Operand.tmp 5), type := 36, pos := "law.go:29", after := #[{ on := 3, ground := Go.Ground.guard }], guard := some (3, false) } : Oper)) (v := ?_) rfl (by kernel_rfl) (by kernel_rfl) (by kernel_rfl) (fun _ _ _ h => h) (Or.inl ⟨by rfl, ?_⟩) (by assumption) ?_
      rotate_left
      focus (intro w hSw; (try dsimp only at hSw); go_simp; try with_reducible rfl)
      try simp only [Act.put, List.setIfInBounds_toArray, List.set_cons_zero, List.set_cons_succ]
      refine wpAnyH_take (i := 5) (oi := ({ dst := some 35, op := Go.Op.call { callee := Go.Callee.builtin Go.Builtin.len, args := #[Go.Operand.tmp 34], argTypes := #[36] }, type := 3, pos := "law.go:29", after := #[{ on := 4, ground := Go.Ground.data }, { on := 3, ground := Go.Ground.guard }], guard := some (3, false) } : Oper)) (v := ?_) rfl (by kernel_rfl) (by kernel_rfl) (by kernel_rfl) (fun _ _ _ h => h) (Or.inl ⟨by rfl, ?_⟩) (by assumption) ?_
      rotate_left
      focus (intro w hSw; (try dsimp only at hSw); go_simp; try with_reducible rfl)
      try simp only [Act.put, List.setIfInBounds_toArray, List.set_cons_zero, List.set_cons_succ]
      refine wpAnyH_take (i := 6) (oi := ({ dst := some 36, op := Go.Op.binOp Go.BinOp.neq 3 (Go.Operand.tmp 35) (Go.Operand.const (Go.Value.int Go.IntKind.i64 2)) 3, type := 4, pos := "law.go:29", after := #[{ on := 5, ground := Go.Ground.data }, { on := 3, ground := Go.Ground.guard }], guard := some (3, false) } : Oper)) (v := ?_) rfl (by kernel_rfl) (by kernel_rfl) (by kernel_rfl) (fun _ _ _ h => h) (Or.inl ⟨by rfl, ?_⟩) (by assumption) ?_
      rotate_left
      focus (intro w hSw; (try dsimp only at hSw); go_simp; try with_reducible rfl)
      try simp only [Act.put, List.setIfInBounds_toArray, List.set_cons_zero, List.set_cons_succ]
      refine wpAnyH_take (i := 7) (oi := ({ dst := some 37, op := Go.Op.pick (Go.Operand.tmp 33) (Go.Operand.const (Go.Value.bool true)) (Go.Operand.tmp 36), type := 4, pos := "law.go:29", after := #[{ on := 3, ground := Go.Ground.data }, { on := 6, ground := Go.Ground.data }], guard := none } : Oper)) (v := ?_) rfl (by kernel_rfl) (by kernel_rfl) (by kernel_rfl) (fun _ _ _ h => h) (Or.inl ⟨by rfl, ?_⟩) (by assumption) ?_
      rotate_left
      focus (intro w hSw; (try dsimp only at hSw); go_simp; try with_reducible rfl)
      try simp only [Act.put, List.setIfInBounds_toArray, List.set_cons_zero, List.set_cons_succ]
      refine wpAnyH_take (i := 8) (oi := ({ dst := some 38, op := Go.Op.move (Go.Operand.tmp 37), type := 4, pos := "law.go:29", after := #[{ on := 7, ground := Go.Ground.data }, { on := 3, ground := Go.Ground.chain }], guard := none } : Oper)) (v := ?_) rfl (by kernel_rfl) (by kernel_rfl) (by kernel_rfl) (fun _ _ _ h => h) (Or.inl ⟨by rfl, ?_⟩) (by assumption) ?_
      rotate_left
      focus (intro w hSw; (try dsimp only at hSw); go_simp; try with_reducible rfl)
      try simp only [Act.put, List.setIfInBounds_toArray, List.set_cons_zero, List.set_cons_succ]
      refine wpAnyH_take (i := 9) (oi := ({ dst := some 39, op := Go.Op.move (Go.Operand.tmp 5), type := 36, pos := "law.go:29", after := #[{ on := 8, ground := Go.Ground.guard }], guard := some (8, false) } : Oper)) (v := ?_) rfl (by kernel_rfl) (by kernel_rfl) (by kernel_rfl) (fun _ _ _ h => h) (Or.inl ⟨by rfl, ?_⟩) (by assumption) ?_
      rotate_left
      focus (intro w hSw; (try dsimp only at hSw); go_simp; try with_reducible rfl)
      try simp only [Act.put, List.setIfInBounds_toArray, List.set_cons_zero, List.set_cons_succ]
      refine wpAnyH_take (i := 10) (oi := ({ dst := some 40, op := Go.Op.indexAddr 36 (Go.Operand.tmp 39) (Go.Operand.const (Go.Value.int Go.IntKind.i64 0)), type := 0, pos := "law.go:29", after := #[{ on := 9, ground := Go.Ground.data }, { on := 8, ground := Go.Ground.guard }], guard := some (8, false) } : Oper)) (v := ?_) rfl (by kernel_rfl) (by kernel_rfl) (by kernel_rfl) (fun _ _ _ h => h) (Or.inl ⟨by rfl, ?_⟩) (by assumption) ?_
      rotate_left
      focus (intro w hSw; (try dsimp only at hSw); go_simp; try with_reducible rfl)
      try simp only [Act.put, List.setIfInBounds_toArray, List.set_cons_zero, List.set_cons_succ]
      refine wpAnyH_take (i := 11) (oi := ({ dst := some 41, op := Go.Op.load 31 (Go.Operand.tmp 40), type := 31, pos := "law.go:29", after := #[{ on := 10, ground := Go.Ground.data }, { on := 8, ground := Go.Ground.guard }], guard := some (8, false) } : Oper)) (v := ?_) rfl (by kernel_rfl) (by kernel_rfl) (by kernel_rfl) (fun _ _ _ h => h) (Or.inl ⟨by rfl, ?_⟩) (by assumption) ?_
      rotate_left
      focus (intro w hSw; (try dsimp only at hSw); go_simp; try with_reducible rfl)
      try simp only [Act.put, List.setIfInBounds_toArray, List.set_cons_zero, List.set_cons_succ]
      refine wpAnyH_take (i := 12) (oi := ({ dst := some 42, op := Go.Op.indexAddr 31 (Go.Operand.tmp 41) (Go.Operand.const (Go.Value.int Go.IntKind.i64 0)), type := 0, pos := "law.go:29", after := #[{ on := 11, ground := Go.Ground.data }, { on := 8, ground := Go.Ground.guard }], guard := some (8, false) } : Oper)) (v := ?_) rfl (by kernel_rfl) (by kernel_rfl) (by kernel_rfl) (fun _ _ _ h => h) (Or.inl ⟨by rfl, ?_⟩) (by assumption) ?_
      rotate_left
      focus (intro w hSw; (try dsimp only at hSw); go_simp; try with_reducible rfl)
      try simp only [Act.put, List.setIfInBounds_toArray, List.set_cons_zero, List.set_cons_succ]
      refine wpAnyH_take (i := 13) (oi := ({ dst := some 43, op := Go.Op.load 5 (Go.Operand.tmp 42), type := 5, pos := "law.go:29", after := #[{ on := 12, ground := Go.Ground.data }, { on := 8, ground := Go.Ground.guard }], guard := some (8, false) } : Oper)) (v := ?_) rfl (by kernel_rfl) (by kernel_rfl) (by kernel_rfl) (fun _ _ _ h => h) (Or.inl ⟨by rfl, ?_⟩) (by assumption) ?_
      rotate_left
      focus (intro w hSw; (try dsimp only at hSw); go_simp; try with_reducible rfl)
      try simp only [Act.put, List.setIfInBounds_toArray, List.set_cons_zero, List.set_cons_succ]
      refine wpAnyH_take (i := 14) (oi := ({ dst := some 44, op := Go.Op.convert 5 3 (Go.Operand.tmp 43), type := 3, pos := "law.go:29", after := #[{ on := 13, ground := Go.Ground.data }, { on := 8, ground := Go.Ground.guard }], guard := some (8, false) } : Oper)) (v := ?_) rfl (by kernel_rfl) (by kernel_rfl) (by kernel_rfl) (fun _ _ _ h => h) (Or.inl ⟨by rfl, ?_⟩) (by assumption) ?_
      rotate_left
      focus (intro w hSw; (try dsimp only at hSw); go_simp; try with_reducible rfl)
      try simp only [Act.put, List.setIfInBounds_toArray, List.set_cons_zero, List.set_cons_succ]
      refine wpAnyH_take (i := 16) (oi := ({ dst := some 46, op := Go.Op.move (Go.Operand.tmp 4), type := 3, pos := "law.go:29", after := #[{ on := 8, ground := Go.Ground.guard }], guard := some (8, false) } : Oper)) (v := ?_) rfl (by kernel_rfl) (by kernel_rfl) (by kernel_rfl) (fun _ _ _ h => h) (Or.inl ⟨by rfl, ?_⟩) (by assumption) ?_
      rotate_left
      focus (intro w hSw; (try dsimp only at hSw); go_simp; try with_reducible rfl)
      try simp only [Act.put, List.setIfInBounds_toArray, List.set_cons_zero, List.set_cons_succ]
      refine wpAnyH_ready (rs := [15]) (by kernel_rfl) (by simp) ?_
      refine AllReadyH.cons (o := ({ dst := some 45, op := Go.Op.buildSlice 58 3 #[(0, Go.Operand.const (Go.Value.int Go.IntKind.i64 0)), (1, Go.Operand.const (Go.Value.int Go.IntKind.i64 5)), (2, Go.Operand.const (Go.Value.int Go.IntKind.i64 6))], type := 58, pos := "law.go:29", after := #[{ on := 8, ground := Go.Ground.guard }], guard := some (8, false) } : Oper)) rfl (fun K hK => ?_) AllReadyH.nil
      go_simp
      refine hK.out _ _ ?_ (fun hHeld => ?_)
      · first | assumption | exact HSA.out _ (by assumption)
      clear hK K
      try simp only [Act.put, List.setIfInBounds_toArray, List.set_cons_zero, List.set_cons_succ]
      refine wpAnyH_take (i := 17) (oi := ({ dst := some 47, op := Go.Op.indexAddr 58 (Go.Operand.tmp 45) (Go.Operand.tmp 46), type := 0, pos := "law.go:29", after := #[{ on := 15, ground := Go.Ground.data }, { on := 16, ground := Go.Ground.data }, { on := 8, ground := Go.Ground.guard }], guard := some (8, false) } : Oper)) (v := ?_) rfl (by kernel_rfl) (by kernel_rfl) (by kernel_rfl) (fun _ _ _ h => h) (Or.inl ⟨by rfl, ?_⟩) (by assumption) ?_
      rotate_left
      focus (intro w hSw; (try dsimp only at hSw); go_simp; try with_reducible rfl)
      try simp only [Act.put, List.setIfInBounds_toArray, List.set_cons_zero, List.set_cons_succ]
      refine wpAnyH_ready (rs := [18]) (by kernel_rfl) (by simp) ?_
      refine AllReadyH.cons (o := ({ dst := some 48, op := Go.Op.load 3 (Go.Operand.tmp 47), type := 3, pos := "law.go:29", after := #[{ on := 17, ground := Go.Ground.data }, { on := 8, ground := Go.Ground.guard }], guard := some (8, false) } : Oper)) rfl (fun K hK => ?_) AllReadyH.nil
      go_simp
      refine hK.out _ _ ?_ (fun hHeld => ?_)
      · first | assumption | exact HSA.out _ (by assumption)
      clear hK K
      try simp only [Act.put, List.setIfInBounds_toArray, List.set_cons_zero, List.set_cons_succ]
      refine wpAnyH_take (i := 19) (oi := ({ dst := some 49, op := Go.Op.binOp Go.BinOp.neq 3 (Go.Operand.tmp 44) (Go.Operand.tmp 48) 3, type := 4, pos := "law.go:29", after := #[{ on := 14, ground := Go.Ground.data }, { on := 18, ground := Go.Ground.data }, { on := 8, ground := Go.Ground.guard }], guard := some (8, false) } : Oper)) (v := ?_) rfl (by kernel_rfl) (by kernel_rfl) (by kernel_rfl) (fun _ _ _ h => h) (Or.inl ⟨by rfl, ?_⟩) (by assumption) ?_
      rotate_left
      focus (intro w hSw; (try dsimp only at hSw); go_simp; try with_reducible rfl)
      try simp only [Act.put, List.setIfInBounds_toArray, List.set_cons_zero, List.set_cons_succ]
      refine wpAnyH_take (i := 20) (oi := ({ dst := some 50, op := Go.Op.pick (Go.Operand.tmp 38) (Go.Operand.const (Go.Value.bool true)) (Go.Operand.tmp 49), type := 4, pos := "law.go:29", after := #[{ on := 8, ground := Go.Ground.data }, { on := 19, ground := Go.Ground.data }], guard := none } : Oper)) (v := ?_) rfl (by kernel_rfl) (by kernel_rfl) (by kernel_rfl) (fun _ _ _ h => h) (Or.inl ⟨by rfl, ?_⟩) (by assumption) ?_
      rotate_left
      focus (intro w hSw; (try dsimp only at hSw); go_simp; try with_reducible rfl)
      try simp only [Act.put, List.setIfInBounds_toArray, List.set_cons_zero, List.set_cons_succ]
      refine wpAnyH_done (by kernel_rfl) ?_ _
      have bW : Below W.heap.size W ((W.alloc (.cells #[.int .i64 0, .int .i64 5, .int .i64 6] 3 (0, 0))).drew) := (((Below.refl _ _).alloc (Nat.le_refl _) _).drew)
      generalize (W.alloc (.cells #[.int .i64 0, .int .i64 5, .int .i64 6] 3 (0, 0))).drew = W5 at bW ⊢
      obtain ⟨c1, c2⟩ := HK1.out W5 bW
      have c1' : W5.cell? ⟨nb, 0, none⟩ = some (.int .i64 1) := c1
      have hF := HN.out W5 bW
      rw [show ((1 : Nat) : Int) + 1 = 2 from rfl] at hF
      have HF := Lib.hid hF
      clear bW HS0 HSA HN HK1 c1 hF
      gi_wp2
      exact HF.out
    · have c4 : W.cell? ⟨kb 0, 0, none⟩ = some (.int .u8 6) := hb0.cell (i := 0) (by decide)
      have HSA : Hid (∀ X : World, (X.cell? ⟨nb, 0, none⟩ = some (.int .i64 2) ∧ X.cell? ⟨og, 0, none⟩ = some (.slice (some ⟨kb 0, 0, none⟩) 1 1) ∧ X.cell? ⟨kb 0, 0, none⟩ = some (.int .u8 6)) → ((X.alloc (.cells #[.int .i64 0, .int .i64 5, .int .i64 6] 3 (0, 0))).cell? ⟨nb, 0, none⟩ = some (.int .i64 2) ∧ (X.alloc (.cells #[.int .i64 0, .int .i64 5, .int .i64 6] 3 (0, 0))).cell? ⟨og, 0, none⟩ = some (.slice (some ⟨kb 0, 0, none⟩) 1 1) ∧ (X.alloc (.cells #[.int .i64 0, .int .i64 5, .int .i64 6] 3 (0, 0))).cell? ⟨kb 0, 0, none⟩ = some (.int .u8 6))) := fun X h => ⟨Lib.cell?_alloc_some _ h.1, Lib.cell?_alloc_some _ h.2.1, Lib.cell?_alloc_some _ h.2.2⟩
      have HS0 : W.drew.cell? ⟨nb, 0, none⟩ = some (.int .i64 2) ∧ W.drew.cell? ⟨og, 0, none⟩ = some (.slice (some ⟨kb 0, 0, none⟩) 1 1) ∧ W.drew.cell? ⟨kb 0, 0, none⟩ = some (.int .u8 6) := ⟨c1, c3, c4⟩
      clear hb0 hk hk2 hA c1 c2 c3 c4
      gi_wp2
      refine wpIn_round_held (S := fun X => X.cell? ⟨nb, 0, none⟩ = some (.int .i64 2) ∧ X.cell? ⟨og, 0, none⟩ = some (.slice (some ⟨kb 0, 0, none⟩) 1 1) ∧ X.cell? ⟨kb 0, 0, none⟩ = some (.int .u8 6)) (by kernel_rfl) (by kernel_rfl) (fun h => by obtain ⟨_, _, h⟩ := h; exact h) HS0 (fun hHeld => ?_)
      refine wpAnyH_take (i := 0) (oi := ({ dst := some 30, op := Go.Op.move (Go.Operand.tmp 4), type := 3, pos := "law.go:29", after := #[], guard := none } : Oper)) (v := ?_) rfl (by kernel_rfl) (by kernel_rfl) (by kernel_rfl) (fun _ _ _ h => h) (Or.inl ⟨by rfl, ?_⟩) (by assumption) ?_
      rotate_left
      focus (intro w hSw; (try dsimp only at hSw); go_simp; try with_reducible rfl)
      try simp only [Act.put, List.setIfInBounds_toArray, List.set_cons_zero, List.set_cons_succ]
      refine wpAnyH_take (i := 1) (oi := ({ dst := some 31, op := Go.Op.load 3 (Go.Operand.tmp 3), type := 3, pos := "law.go:29", after := #[], guard := none } : Oper)) (v := ?_) rfl (by kernel_rfl) (by kernel_rfl) (by kernel_rfl) (fun _ _ _ h => h) (Or.inl ⟨by rfl, ?_⟩) (by assumption) ?_
      rotate_left
      focus (intro w hSw; (try dsimp only at hSw); go_simp; try with_reducible rfl)
      try simp only [Act.put, List.setIfInBounds_toArray, List.set_cons_zero, List.set_cons_succ]
      refine wpAnyH_take (i := 2) (oi := ({ dst := some 32, op := Go.Op.binOp Go.BinOp.neq 3 (Go.Operand.tmp 30) (Go.Operand.tmp 31) 3, type := 4, pos := "law.go:29", after := #[{ on := 0, ground := Go.Ground.data }, { on := 1, ground := Go.Ground.data }], guard := none } : Oper)) (v := ?_) rfl (by kernel_rfl) (by kernel_rfl) (by kernel_rfl) (fun _ _ _ h => h) (Or.inl ⟨by rfl, ?_⟩) (by assumption) ?_
      rotate_left
      focus (intro w hSw; (try dsimp only at hSw); go_simp; try with_reducible rfl)
      try simp only [Act.put, List.setIfInBounds_toArray, List.set_cons_zero, List.set_cons_succ]
      refine wpAnyH_take (i := 3) (oi := ({ dst := some 33, op := Go.Op.move (Go.Operand.tmp 32), type := 4, pos := "law.go:29", after := #[{ on := 2, ground := Go.Ground.data }], guard := none } : Oper)) (v := ?_) rfl (by kernel_rfl) (by kernel_rfl) (by kernel_rfl) (fun _ _ _ h => h) (Or.inl ⟨by rfl, ?_⟩) (by assumption) ?_
      rotate_left
      focus (intro w hSw; (try dsimp only at hSw); go_simp; try with_reducible rfl)
      try simp only [Act.put, List.setIfInBounds_toArray, List.set_cons_zero, List.set_cons_succ]
      refine wpAnyH_take (i := 4) (oi := ({ dst := some 34, op := Go.Op.move (Go.Operand.tmp 5), type := 36, pos := "law.go:29", after := #[{ on := 3, ground := Go.Ground.guard }], guard := some (3, false) } : Oper)) (v := ?_) rfl (by kernel_rfl) (by kernel_rfl) (by kernel_rfl) (fun _ _ _ h => h) (Or.inl ⟨by rfl, ?_⟩) (by assumption) ?_
      rotate_left
      focus (intro w hSw; (try dsimp only at hSw); go_simp; try with_reducible rfl)
      try simp only [Act.put, List.setIfInBounds_toArray, List.set_cons_zero, List.set_cons_succ]
      refine wpAnyH_take (i := 5) (oi := ({ dst := some 35, op := Go.Op.call { callee := Go.Callee.builtin Go.Builtin.len, args := #[Go.Operand.tmp 34], argTypes := #[36] }, type := 3, pos := "law.go:29", after := #[{ on := 4, ground := Go.Ground.data }, { on := 3, ground := Go.Ground.guard }], guard := some (3, false) } : Oper)) (v := ?_) rfl (by kernel_rfl) (by kernel_rfl) (by kernel_rfl) (fun _ _ _ h => h) (Or.inl ⟨by rfl, ?_⟩) (by assumption) ?_
      rotate_left
      focus (intro w hSw; (try dsimp only at hSw); go_simp; try with_reducible rfl)
      try simp only [Act.put, List.setIfInBounds_toArray, List.set_cons_zero, List.set_cons_succ]
      refine wpAnyH_take (i := 6) (oi := ({ dst := some 36, op := Go.Op.binOp Go.BinOp.neq 3 (Go.Operand.tmp 35) (Go.Operand.const (Go.Value.int Go.IntKind.i64 2)) 3, type := 4, pos := "law.go:29", after := #[{ on := 5, ground := Go.Ground.data }, { on := 3, ground := Go.Ground.guard }], guard := some (3, false) } : Oper)) (v := ?_) rfl (by kernel_rfl) (by kernel_rfl) (by kernel_rfl) (fun _ _ _ h => h) (Or.inl ⟨by rfl, ?_⟩) (by assumption) ?_
      rotate_left
      focus (intro w hSw; (try dsimp only at hSw); go_simp; try with_reducible rfl)
      try simp only [Act.put, List.setIfInBounds_toArray, List.set_cons_zero, List.set_cons_succ]
      refine wpAnyH_take (i := 7) (oi := ({ dst := some 37, op := Go.Op.pick (Go.Operand.tmp 33) (Go.Operand.const (Go.Value.bool true)) (Go.Operand.tmp 36), type := 4, pos := "law.go:29", after := #[{ on := 3, ground := Go.Ground.data }, { on := 6, ground := Go.Ground.data }], guard := none } : Oper)) (v := ?_) rfl (by kernel_rfl) (by kernel_rfl) (by kernel_rfl) (fun _ _ _ h => h) (Or.inl ⟨by rfl, ?_⟩) (by assumption) ?_
      rotate_left
      focus (intro w hSw; (try dsimp only at hSw); go_simp; try with_reducible rfl)
      try simp only [Act.put, List.setIfInBounds_toArray, List.set_cons_zero, List.set_cons_succ]
      refine wpAnyH_take (i := 8) (oi := ({ dst := some 38, op := Go.Op.move (Go.Operand.tmp 37), type := 4, pos := "law.go:29", after := #[{ on := 7, ground := Go.Ground.data }, { on := 3, ground := Go.Ground.chain }], guard := none } : Oper)) (v := ?_) rfl (by kernel_rfl) (by kernel_rfl) (by kernel_rfl) (fun _ _ _ h => h) (Or.inl ⟨by rfl, ?_⟩) (by assumption) ?_
      rotate_left
      focus (intro w hSw; (try dsimp only at hSw); go_simp; try with_reducible rfl)
      try simp only [Act.put, List.setIfInBounds_toArray, List.set_cons_zero, List.set_cons_succ]
      refine wpAnyH_take (i := 9) (oi := ({ dst := some 39, op := Go.Op.move (Go.Operand.tmp 5), type := 36, pos := "law.go:29", after := #[{ on := 8, ground := Go.Ground.guard }], guard := some (8, false) } : Oper)) (v := ?_) rfl (by kernel_rfl) (by kernel_rfl) (by kernel_rfl) (fun _ _ _ h => h) (Or.inl ⟨by rfl, ?_⟩) (by assumption) ?_
      rotate_left
      focus (intro w hSw; (try dsimp only at hSw); go_simp; try with_reducible rfl)
      try simp only [Act.put, List.setIfInBounds_toArray, List.set_cons_zero, List.set_cons_succ]
      refine wpAnyH_take (i := 10) (oi := ({ dst := some 40, op := Go.Op.indexAddr 36 (Go.Operand.tmp 39) (Go.Operand.const (Go.Value.int Go.IntKind.i64 0)), type := 0, pos := "law.go:29", after := #[{ on := 9, ground := Go.Ground.data }, { on := 8, ground := Go.Ground.guard }], guard := some (8, false) } : Oper)) (v := ?_) rfl (by kernel_rfl) (by kernel_rfl) (by kernel_rfl) (fun _ _ _ h => h) (Or.inl ⟨by rfl, ?_⟩) (by assumption) ?_
      rotate_left
      focus (intro w hSw; (try dsimp only at hSw); go_simp; try with_reducible rfl)
      try simp only [Act.put, List.setIfInBounds_toArray, List.set_cons_zero, List.set_cons_succ]
      refine wpAnyH_take (i := 11) (oi := ({ dst := some 41, op := Go.Op.load 31 (Go.Operand.tmp 40), type := 31, pos := "law.go:29", after := #[{ on := 10, ground := Go.Ground.data }, { on := 8, ground := Go.Ground.guard }], guard := some (8, false) } : Oper)) (v := ?_) rfl (by kernel_rfl) (by kernel_rfl) (by kernel_rfl) (fun _ _ _ h => h) (Or.inl ⟨by rfl, ?_⟩) (by assumption) ?_
      rotate_left
      focus (intro w hSw; (try dsimp only at hSw); go_simp; try with_reducible rfl)
      try simp only [Act.put, List.setIfInBounds_toArray, List.set_cons_zero, List.set_cons_succ]
      refine wpAnyH_take (i := 12) (oi := ({ dst := some 42, op := Go.Op.indexAddr 31 (Go.Operand.tmp 41) (Go.Operand.const (Go.Value.int Go.IntKind.i64 0)), type := 0, pos := "law.go:29", after := #[{ on := 11, ground := Go.Ground.data }, { on := 8, ground := Go.Ground.guard }], guard := some (8, false) } : Oper)) (v := ?_) rfl (by kernel_rfl) (by kernel_rfl) (by kernel_rfl) (fun _ _ _ h => h) (Or.inl ⟨by rfl, ?_⟩) (by assumption) ?_
      rotate_left
      focus (intro w hSw; (try dsimp only at hSw); go_simp; try with_reducible rfl)
      try simp only [Act.put, List.setIfInBounds_toArray, List.set_cons_zero, List.set_cons_succ]
      refine wpAnyH_take (i := 13) (oi := ({ dst := some 43, op := Go.Op.load 5 (Go.Operand.tmp 42), type := 5, pos := "law.go:29", after := #[{ on := 12, ground := Go.Ground.data }, { on := 8, ground := Go.Ground.guard }], guard := some (8, false) } : Oper)) (v := ?_) rfl (by kernel_rfl) (by kernel_rfl) (by kernel_rfl) (fun _ _ _ h => h) (Or.inl ⟨by rfl, ?_⟩) (by assumption) ?_
      rotate_left
      focus (intro w hSw; (try dsimp only at hSw); go_simp; try with_reducible rfl)
      try simp only [Act.put, List.setIfInBounds_toArray, List.set_cons_zero, List.set_cons_succ]
      refine wpAnyH_take (i := 14) (oi := ({ dst := some 44, op := Go.Op.convert 5 3 (Go.Operand.tmp 43), type := 3, pos := "law.go:29", after := #[{ on := 13, ground := Go.Ground.data }, { on := 8, ground := Go.Ground.guard }], guard := some (8, false) } : Oper)) (v := ?_) rfl (by kernel_rfl) (by kernel_rfl) (by kernel_rfl) (fun _ _ _ h => h) (Or.inl ⟨by rfl, ?_⟩) (by assumption) ?_
      rotate_left
      focus (intro w hSw; (try dsimp only at hSw); go_simp; try with_reducible rfl)
      try simp only [Act.put, List.setIfInBounds_toArray, List.set_cons_zero, List.set_cons_succ]
      refine wpAnyH_take (i := 16) (oi := ({ dst := some 46, op := Go.Op.move (Go.Operand.tmp 4), type := 3, pos := "law.go:29", after := #[{ on := 8, ground := Go.Ground.guard }], guard := some (8, false) } : Oper)) (v := ?_) rfl (by kernel_rfl) (by kernel_rfl) (by kernel_rfl) (fun _ _ _ h => h) (Or.inl ⟨by rfl, ?_⟩) (by assumption) ?_
      rotate_left
      focus (intro w hSw; (try dsimp only at hSw); go_simp; try with_reducible rfl)
      try simp only [Act.put, List.setIfInBounds_toArray, List.set_cons_zero, List.set_cons_succ]
      refine wpAnyH_ready (rs := [15]) (by kernel_rfl) (by simp) ?_
      refine AllReadyH.cons (o := ({ dst := some 45, op := Go.Op.buildSlice 58 3 #[(0, Go.Operand.const (Go.Value.int Go.IntKind.i64 0)), (1, Go.Operand.const (Go.Value.int Go.IntKind.i64 5)), (2, Go.Operand.const (Go.Value.int Go.IntKind.i64 6))], type := 58, pos := "law.go:29", after := #[{ on := 8, ground := Go.Ground.guard }], guard := some (8, false) } : Oper)) rfl (fun K hK => ?_) AllReadyH.nil
      go_simp
      refine hK.out _ _ ?_ (fun hHeld => ?_)
      · first | assumption | exact HSA.out _ (by assumption)
      clear hK K
      try simp only [Act.put, List.setIfInBounds_toArray, List.set_cons_zero, List.set_cons_succ]
      refine wpAnyH_take (i := 17) (oi := ({ dst := some 47, op := Go.Op.indexAddr 58 (Go.Operand.tmp 45) (Go.Operand.tmp 46), type := 0, pos := "law.go:29", after := #[{ on := 15, ground := Go.Ground.data }, { on := 16, ground := Go.Ground.data }, { on := 8, ground := Go.Ground.guard }], guard := some (8, false) } : Oper)) (v := ?_) rfl (by kernel_rfl) (by kernel_rfl) (by kernel_rfl) (fun _ _ _ h => h) (Or.inl ⟨by rfl, ?_⟩) (by assumption) ?_
      rotate_left
      focus (intro w hSw; (try dsimp only at hSw); go_simp; try with_reducible rfl)
      try simp only [Act.put, List.setIfInBounds_toArray, List.set_cons_zero, List.set_cons_succ]
      refine wpAnyH_ready (rs := [18]) (by kernel_rfl) (by simp) ?_
      refine AllReadyH.cons (o := ({ dst := some 48, op := Go.Op.load 3 (Go.Operand.tmp 47), type := 3, pos := "law.go:29", after := #[{ on := 17, ground := Go.Ground.data }, { on := 8, ground := Go.Ground.guard }], guard := some (8, false) } : Oper)) rfl (fun K hK => ?_) AllReadyH.nil
      go_simp
      refine hK.out _ _ ?_ (fun hHeld => ?_)
      · first | assumption | exact HSA.out _ (by assumption)
      clear hK K
      try simp only [Act.put, List.setIfInBounds_toArray, List.set_cons_zero, List.set_cons_succ]
      refine wpAnyH_take (i := 19) (oi := ({ dst := some 49, op := Go.Op.binOp Go.BinOp.neq 3 (Go.Operand.tmp 44) (Go.Operand.tmp 48) 3, type := 4, pos := "law.go:29", after := #[{ on := 14, ground := Go.Ground.data }, { on := 18, ground := Go.Ground.data }, { on := 8, ground := Go.Ground.guard }], guard := some (8, false) } : Oper)) (v := ?_) rfl (by kernel_rfl) (by kernel_rfl) (by kernel_rfl) (fun _ _ _ h => h) (Or.inl ⟨by rfl, ?_⟩) (by assumption) ?_
      rotate_left
      focus (intro w hSw; (try dsimp only at hSw); go_simp; try with_reducible rfl)
      try simp only [Act.put, List.setIfInBounds_toArray, List.set_cons_zero, List.set_cons_succ]
      refine wpAnyH_take (i := 20) (oi := ({ dst := some 50, op := Go.Op.pick (Go.Operand.tmp 38) (Go.Operand.const (Go.Value.bool true)) (Go.Operand.tmp 49), type := 4, pos := "law.go:29", after := #[{ on := 8, ground := Go.Ground.data }, { on := 19, ground := Go.Ground.data }], guard := none } : Oper)) (v := ?_) rfl (by kernel_rfl) (by kernel_rfl) (by kernel_rfl) (fun _ _ _ h => h) (Or.inl ⟨by rfl, ?_⟩) (by assumption) ?_
      rotate_left
      focus (intro w hSw; (try dsimp only at hSw); go_simp; try with_reducible rfl)
      try simp only [Act.put, List.setIfInBounds_toArray, List.set_cons_zero, List.set_cons_succ]
      refine wpAnyH_done (by kernel_rfl) ?_ _
      have bW : Below W.heap.size W ((W.alloc (.cells #[.int .i64 0, .int .i64 5, .int .i64 6] 3 (0, 0))).drew) := (((Below.refl _ _).alloc (Nat.le_refl _) _).drew)
      generalize (W.alloc (.cells #[.int .i64 0, .int .i64 5, .int .i64 6] 3 (0, 0))).drew = W5 at bW ⊢
      obtain ⟨c1, c2⟩ := HK1.out W5 bW
      have c1' : W5.cell? ⟨nb, 0, none⟩ = some (.int .i64 2) := c1
      have hF := HN.out W5 bW
      rw [show ((2 : Nat) : Int) + 1 = 3 from rfl] at hF
      have HF := Lib.hid hF
      clear bW HS0 HSA HN HK1 c1 hF
      gi_wp2
      exact HF.out
  case done_s =>
    rintro D xs bl' W hD hDl hDb hS ⟨rfl, h1, h2⟩ hdef
    have hx3 : xs.length = 3 := hS
    rw [hx3] at h1
    have HS9 : Hid (S26 w W zb mo 2 1 T0 L2 bl6 dl6 2) := by
      have hz := lt_of_block HS8.out.z
      have hb := HS8.out.b.size
      refine ⟨HS8.out.b.trans ⟨h2.os, h2.tape, h2.output, h2.size, fun k hk => h2.same k (by omega) fun hm => ?_⟩, (h2.same zb hz fun hm => ?_).trans HS8.out.z, HS8.out.m.tn h2 (fun k hk hm => ?_), HS8.out.g, HS8.out.h⟩
      · have := H8.out.2.2.2.1; have := HS8.out.h; rw [List.mem_singleton.1 hm] at hk; omega
      · have := H8.out.2.2.2.1; have := List.mem_singleton.1 hm; omega
      · have := H8.out.2.2.2.2 k hk; rw [List.mem_singleton.1 hm] at this; omega
    have H9 : Hid (W.heap[nb]? = some (.cells #[.int .i64 3] 3 (0, 0)) ∧ W.heap[D]? = some (.deferred (some [])) ∧ D ≠ nb ∧ w8.heap.size ≤ D) := ⟨h1, hdef, fun e => hDb (by simp [e]), hD⟩
    clear h1 h2 hdef hD hDl hDb hS hx3
    go_upto_region 13 with (fail)
    generalize hwq : W = wq at HS9 H9 ⊢
    clear hwq
    go_wp2_with fail
    generalize hw : ((wq.alloc (.cells #[.int .u8 6] 5 (0, 0))).alloc (.cells #[.int .u8 0] 5 (0, 0))).alloc (.cells #[.slice (some ⟨wq.heap.size, 0, none⟩) 1 1, .slice (some ⟨wq.heap.size + 1, 0, none⟩) 1 1] 31 (0, 0)) = w9
    obtain ⟨hl9, b9⟩ := lit2 wq w9 6 0 hw
    clear hw
    have HS10 := Lib.hid (HS9.out.below b9)
    have H10 : Hid (w9.heap[nb]? = some (.cells #[.int .i64 3] 3 (0, 0)) ∧ w9.heap[D]? = some (.deferred (some [])) ∧ D ≠ nb ∧ w8.heap.size ≤ D) := ⟨(b9.block nb (lt_of_block H9.out.1)).trans H9.out.1, (b9.block D (lt_of_block H9.out.2.1)).trans H9.out.2.1, H9.out.2.2⟩
    have HSt := Lib.hid (settl_any (c2 := 2) HS10.out.m hl9 (by unfold maxLen; omega))
    clear hl9 b9 HS9 H9
    refine HSt.out.mono ?_
    intro e w10 hp
    have h2J : EqJ 2 2 T0 L2 (fun j => if j = 0 then [6] else [0]) 2 := ⟨rfl, fun j hj => by
      have hj2 : j = 0 ∨ j = 1 := by omega
      rcases hj2 with rfl | rfl <;> rfl⟩
    have h0J : ¬ EqJ 2 2 T0 L2 (fun j => if j = 0 then [6] else [0]) 0 := fun h => absurd (h.2 0 (by omega)) (by decide)
    have h1J : ¬ EqJ 2 2 T0 L2 (fun j => if j = 0 then [6] else [0]) 1 := fun h => absurd (h.2 0 (by omega)) (by decide)
    rcases hp with ⟨k, hk, he, hmin, rfl, bl', mo', t'⟩ | ⟨hno, _, _⟩
    rotate_left
    · exact absurd h2J (hno 2 (by decide))
    obtain rfl : k = 2 := by
      have h1 : k ≤ 2 := hk
      have h2 : k ≠ 0 := fun e => by subst e; exact h0J he
      have h3 : k ≠ 1 := fun e => by subst e; exact h1J he
      omega
    have HS11 := Lib.hid (HS10.out.tn t' mo')
    have H11 : Hid (w10.heap[nb]? = some (.cells #[.int .i64 3] 3 (0, 0)) ∧ w10.heap[D]? = some (.deferred (some [])) ∧ D ≠ nb ∧ w8.heap.size ≤ D) := by
      refine ⟨(t'.same nb (lt_of_block H10.out.1) fun hm => ?_).trans H10.out.1, (t'.same D (lt_of_block H10.out.2.1) fun hm => ?_).trans H10.out.2.1, H10.out.2.2⟩
      · have := H8.out.2.2.2.2 nb (.inl hm); omega
      · have := H8.out.2.2.2.2 D (.inl hm); have := H10.out.2.2.2; have := lt_of_block H8.out.1; omega
    clear h2J h0J h1J hk he hmin mo' t' HSt HS10 H10
    go_wp2_with fail
    generalize hw : ((w10.alloc (.cells #[.int .u8 9] 5 (0, 0))).alloc (.cells #[.int .u8 9] 5 (0, 0))).alloc (.cells #[.slice (some ⟨w10.heap.size, 0, none⟩) 1 1, .slice (some ⟨w10.heap.size + 1, 0, none⟩) 1 1] 31 (0, 0)) = w11
    obtain ⟨hl11, b11⟩ := lit2 w10 w11 9 9 hw
    clear hw
    have HS12 := Lib.hid (HS11.out.below b11)
    have HSt := Lib.hid (settl_any (c2 := 2) HS12.out.m hl11 (by unfold maxLen; omega))
    refine HSt.out.mono ?_
    intro e w12 hp
    have h0J : ¬ EqJ 2 2 (app T0 (L2.take 2)) [] (fun j => if j = 0 then [9] else [9]) 0 := fun h => absurd (h.2 0 (by omega)) (by decide)
    rcases hp with ⟨k, hk, he, _⟩ | ⟨_, rfl, b12⟩
    · obtain rfl : k = 0 := by have h1 : k ≤ 0 := hk; omega
      exact absurd he h0J
    have HS13 := Lib.hid (HS12.out.below b12)
    have b13 := b11.trans (b12.mono b11.size)
    have H13 : Hid (w12.heap[nb]? = some (.cells #[.int .i64 3] 3 (0, 0)) ∧ w12.heap[D]? = some (.deferred (some [])) ∧ D ≠ nb ∧ w8.heap.size ≤ D) := ⟨(b13.block nb (lt_of_block H11.out.1)).trans H11.out.1, (b13.block D (lt_of_block H11.out.2.1)).trans H11.out.2.1, H11.out.2.2⟩
    have n3 := cell_of_one H13.out.1
    have z0 := cell_of_one HS13.out.z
    have z1 := free_of_one HS13.out.z
    have HWt : Hid (Calls Tryd.prog 15 #[.pointer (some ⟨mo, 0, none⟩)] w12 fun e w' => e = .returned (.int .i64 0) ∧ w12 = w') := waiting_any HS13.out.m
    have HF : Hid ((w12.setCell ⟨zb, 0, none⟩ (.bool true)).heap[zb]? = some (.cells #[.bool true] 4 (0, 0)) ∧ (w12.setCell ⟨zb, 0, none⟩ (.bool true)).heap[D]? = some (.deferred (some [])) ∧ D ≠ zb ∧ w.heap.size ≤ D ∧ Below w.heap.size w (w12.setCell ⟨zb, 0, none⟩ (.bool true))) := by
      have o := Only.setCell w12 ⟨zb, 0, none⟩ (.bool true)
      have h1 := lt_of_block HS8.out.z
      have h2 := H13.out.2.2.2
      have h3 := HS8.out.h
      have hd : D ≠ zb := by omega
      exact ⟨heap_setCell_same w12 zb 0 _ _ _ HS13.out.z, (o.block D hd).trans H13.out.2.1, hd, by omega, HS13.out.b.trans (o.below (by show w.heap.size ≤ zb; omega))⟩
    clear hl11 b11 HS12 HSt h0J b12 b13 H11 HS11 H13
    go_wp2_with fail
    refine HWt.out.mono ?_
    rintro e w' ⟨rfl, rfl⟩
    clear HWt
    go_wp2_with fail
    refine marks_post [D] _ (by simp) (fun X hX => ?_) (fun W' e1 e2 e3 e4 e5 => ?_)
    · rw [List.mem_singleton.1 hX]
      exact HF.out.2.1
    · have f5 : ∀ z, z ≠ D → W'.heap[z]? = _ := fun z hz => e5 z (by simpa using hz)
      obtain ⟨f1, _, d1, hD, hb⟩ := HF.out
      exact ⟨_, res_first rfl (cell_of_one ((f5 zb (Ne.symm d1)).trans f1)), rfl, hb.trans ⟨e1, e2, e3, by rw [e4]; exact Nat.le_refl _, fun k hk => f5 k (by omega)⟩⟩
  case stop_s =>
    rintro D cde pre bl' W hD hDl hDb hS hix hdef
    exact hix.elim
end Go.Proofs.YtbngkmlipmhgdaaDoor.Mo
