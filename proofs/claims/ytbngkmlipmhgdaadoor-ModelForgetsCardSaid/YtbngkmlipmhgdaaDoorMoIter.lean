/- A model's fronts, told one by one. By the verifier of shale. -/
import Derived.Test.YtbngkmlipmhgdaaDoorMoEq
import Derived.Test.YtbngkmlipmhgdaaDoorRangeGiftM
import Derived.Deep.RegionHeld3
import Derived.RangeFuncCalls
namespace Go.Proofs.YtbngkmlipmhgdaaDoor.Mo
open Go Go.RowKit Bin
set_option linter.unusedVariables false
set_option linter.unusedSimpArgs false
/-- what is told: how many of those that wait are taken, and the sectors then. -/
structure Fd where
  i : Nat
  og : Nat
  kb : Nat → Nat
abbrev encF (n : Nat) (x : Fd) : Array Value := #[.int .i64 (x.i : Int), .slice (some ⟨x.og, 0, none⟩) n n]
def gift (n : Nat) (x : Fd) : List Nat := x.og :: (List.range n).map x.kb
def VF (n sz : Nat) (T : Nat → Bs) (L : List (Nat × Bs)) (B : Nat) (pre : List Fd) (x : Fd) (ol : List Nat) (X : World) : Prop :=
  x.i = pre.length ∧ x.i ≤ L.length ∧ AllS X x.og n sz x.kb (app T (L.take x.i)) ∧ (∀ k ∈ gift n x, k ∉ ol) ∧ ∀ k ∈ gift n x, B ≤ k
theorem gift_lt {n sz : Nat} {M : Nat → Bs} {X : World} {x : Fd} (h : AllS X x.og n sz x.kb M) : ∀ k ∈ gift n x, k < X.heap.size := fun k hk => by
  unfold gift at hk
  rcases List.mem_cons.1 hk with rfl | hk
  · exact lt_of_block h.1
  · obtain ⟨j, hj, rfl⟩ := List.mem_map.1 hk
    exact lt_of_block (h.2.1 j (List.mem_range.1 hj)).1
theorem vf_gift {n sz : Nat} {T : Nat → Bs} {L : List (Nat × Bs)} {B : Nat} : ∀ pre x ol X, VF n sz T L B pre x ol X → ∀ k ∈ gift n x, k ∉ ol := fun pre x ol X h => h.2.2.2.1
theorem vf_lt {n sz : Nat} {T : Nat → Bs} {L : List (Nat × Bs)} {B : Nat} : ∀ pre x ol X, VF n sz T L B pre x ol X → ∀ k ∈ gift n x, k < X.heap.size := fun pre x ol X h => gift_lt h.2.2.1
theorem AllS.same {w w' : World} {og n sz : Nat} {kb : Nat → Nat} {T : Nat → Bs} (h : AllS w og n sz kb T) (o : ∀ k ∈ gift n ⟨0, og, kb⟩, w'.heap[k]? = w.heap[k]?) : AllS w' og n sz kb T :=
  ⟨(o og (by unfold gift; simp)).trans h.1, fun j hj => ⟨(o _ (by unfold gift; exact List.mem_cons_of_mem _ (List.mem_map.2 ⟨j, List.mem_range.2 hj, rfl⟩))).trans (h.2.1 j hj).1, (h.2.1 j hj).2⟩, h.2.2⟩
theorem vf_same {n sz : Nat} {T : Nat → Bs} {L : List (Nat × Bs)} {B : Nat} : ∀ pre x ol X Y, VF n sz T L B pre x ol X → Tn ol X Y ol → VF n sz T L B pre x ol Y := fun pre x ol X Y h t =>
  ⟨h.1, h.2.1, h.2.2.1.same fun k hk => t.same k (gift_lt h.2.2.1 k hk) (h.2.2.2.1 k hk), h.2.2.2⟩
/-- what stays while the iterator goes on. -/
def MF (mo cb n sz : Nat) (X : World) : Prop := X.heap[cb]? = some (.cells #[.pointer (some ⟨mo, 0, none⟩)] 24 (0, 0)) ∧ ∃ c d v, X.heap[mo]? = some (.cells #[.int .i64 (n : Int), .int .i64 (sz : Int), c, d, v] 63 (0, 0))
/-- what the iterator finds. -/
def FindsF (mo cb n sz : Nat) (T : Nat → Bs) (L : List (Nat × Bs)) (bl dl : List Nat) (cbd : Nat) (ol : List Nat) (W : World) : Prop :=
  MoAt W mo n sz T L bl dl cbd ∧ W.heap[cb]? = some (.cells #[.pointer (some ⟨mo, 0, none⟩)] 24 (0, 0)) ∧ ∀ k ∈ dl, k ∉ ol
set_option maxHeartbeats 400000 in
theorem fronts_any (mo : Nat) (w : World) : Calls Tryd.prog 18 #[.pointer (some ⟨mo, 0, none⟩)] w fun e w' => e = .returned (.func (.func 28) #[] #[.pointer (some ⟨w.heap.size, 0, none⟩)]) ∧ w'.heap[w.heap.size]? = some (.cells #[.pointer (some ⟨mo, 0, none⟩)] 24 (0, 0)) ∧ Below w.heap.size w w' := by
  have h1 : Hid ((w.alloc (.cells #[.pointer (some ⟨mo, 0, none⟩)] 24 (0, 0))).heap[w.heap.size]? = some (.cells #[.pointer (some ⟨mo, 0, none⟩)] 24 (0, 0)) ∧ Below w.heap.size w (w.alloc (.cells #[.pointer (some ⟨mo, 0, none⟩)] 24 (0, 0)))) := ⟨heap_alloc_new w _, (Below.refl _ _).alloc (Nat.le_refl _) _⟩
  go_enter Tryd.func18, Tryd.ntmps18
  go_wp2_with fail
  go_ret
  exact ⟨rfl, h1.out.1, h1.out.2⟩
/-- what the iterator carries over its rounds. -/
def ItF (n sz : Nat) (T : Nat → Bs) (L : List (Nat × Bs)) (E : List We) (dl : List Nat) (B0 cm b : Nat) (v1 : Value) (O : List Fd → List Nat → World → Prop) (i : Nat) (wx : World) : Prop :=
  ∃ pre ol m, pre.length = i ∧ O pre ol wx ∧ WRow wx v1 E ∧ MapS wx cm m (b + i) ∧ Holds wx n sz (app T (L.take i)) m ∧ MIn dl m ∧ (∀ e ∈ E, Dat wx e.d e.l) ∧ (∀ k ∈ dl, k ∉ ol ∧ k < wx.heap.size) ∧ (∀ k, v1.ownBlock = some k → k ∉ ol ∧ k < wx.heap.size) ∧ cm ∉ ol ∧ B0 ≤ wx.heap.size
theorem weaken {w : World} {b n : Nat} {v : Value} {xs : List Value} (h : w.ownsRow b 67 2 v n xs) : w.ownsRow 0 67 2 v n xs := by
  refine ⟨h.1, ?_⟩
  rcases h.2 with h0 | ⟨g', cap', cur, hv, hbg, r⟩
  · exact .inl h0
  · exact .inr ⟨g', cap', cur, hv, Nat.zero_le _, r⟩
/-- a round's world behind the yield: all that the iterator owns is as it was. -/
theorem ItF.kept {n sz : Nat} {T : Nat → Bs} {L : List (Nat × Bs)} {E : List We} {dl : List Nat} {cm b i : Nat} {v1 : Value} {ol ol2 : List Nat} {x : Fd} {w4 w6 w7 : World} {m : Int → Option Sd}
    (hr : WRow w4 v1 E) (hm : MapS w4 cm m (b + i)) (hh : Holds w4 n sz (app T (L.take i)) m) (hin : MIn dl m) (he : ∀ e ∈ E, Dat w4 e.d e.l) (hE : ∀ e ∈ E, InD dl e.d) (hd : ∀ k ∈ dl, k ∉ ol ∧ k < w4.heap.size) (hv : ∀ k, v1.ownBlock = some k → k ∉ ol ∧ k < w4.heap.size) (hc : cm ∉ ol)
    (b46 : Below w4.heap.size w4 w6) (hg : ∀ k ∈ gift n x, w4.heap.size ≤ k) (t : Tn (gift n x ++ ol) w6 w7 ol2) :
    WRow w7 v1 E ∧ MapS w7 cm m (b + i) ∧ Holds w7 n sz (app T (L.take i)) m ∧ (∀ e ∈ E, Dat w7 e.d e.l) ∧ (∀ k ∈ dl, k ∉ ol2 ∧ k < w7.heap.size) ∧ (∀ k, v1.ownBlock = some k → k ∉ ol2 ∧ k < w7.heap.size) ∧ cm ∉ ol2 ∧ w4.heap.size ≤ w7.heap.size := by
  have keep : ∀ k, k < w4.heap.size → k ∉ ol → w7.heap[k]? = w4.heap[k]? := fun k hk hn => by
    refine (t.same k (Nat.lt_of_lt_of_le hk b46.size) fun h => ?_).trans (b46.block k hk)
    rcases List.mem_append.1 h with h | h
    · have := hg k h; omega
    · exact hn h
  have nin : ∀ k, k < w4.heap.size → k ∉ ol → k ∉ ol2 := fun k hk hn h => by
    rcases t.new k h with h | h
    · rcases List.mem_append.1 h with h | h
      · have := hg k h; omega
      · exact hn h
    · have := b46.size; omega
  have hs : w4.heap.size ≤ w7.heap.size := Nat.le_trans b46.size t.size
  have od : ∀ k ∈ dl, w7.heap[k]? = w4.heap[k]? := fun k hk => keep k (hd k hk).2 (hd k hk).1
  refine ⟨wrow_keep hr fun k hk => keep k (hv k hk).2 (hv k hk).1, hm.keep (keep cm hm.lt hc), hh.same hin hs od, fun e hm => (he e hm).same hs fun p hp => od _ (hE e hm p hp), fun k hk => ⟨nin k (hd k hk).2 (hd k hk).1, Nat.lt_of_lt_of_le (hd k hk).2 hs⟩, fun k hk => ⟨nin k (hv k hk).2 (hv k hk).1, Nat.lt_of_lt_of_le (hv k hk).2 hs⟩, nin cm hm.lt hc, hs⟩
theorem itf_start {W wz : World} {mo n sz : Nat} {T : Nat → Bs} {L : List (Nat × Bs)} {bl dl : List Nat} {cbd tm nm cm : Nat} {mT mN : Int → Option Sd} {bT bN : Nat} {v v1 : Value} {E : List We} {O : List Fd → List Nat → World → Prop} {ol : List Nat}
    (h : MoIn W mo n sz T L bl dl cbd tm nm mT mN bT bN v E) (h0 : O [] ol wz) (hol : ∀ k ∈ dl, k ∉ ol) (hOl : ∀ k ∈ ol, k < W.heap.size) (bz : Below W.heap.size W wz) (hr : WRow wz v1 E) (hv : ∀ k, v1.ownBlock = some k → W.heap.size ≤ k) (hm : MapS wz cm mT bT) (hc : W.heap.size ≤ cm) :
    ItF n sz T L E dl W.heap.size cm bT v1 O 0 wz := by
  have od : ∀ k ∈ dl, wz.heap[k]? = W.heap[k]? := fun k hk => bz.block k (h.dlt k hk)
  refine ⟨[], ol, mT, rfl, h0, hr, hm, h.holT.same h.inT bz.size od, h.inT, fun e he => (h.ents e he).1.same bz.size fun p hp => od _ (h.inE e he p hp), fun k hk => ⟨hol k hk, Nat.lt_of_lt_of_le (h.dlt k hk) bz.size⟩, fun k hk => ⟨fun hm => ?_, (hr.lt k hk).2⟩, fun hm => ?_, bz.size⟩
  · have := hv k hk; have := hOl k hm; omega
  · have := hOl cm hm; omega
set_option maxRecDepth 100000 in
set_option maxHeartbeats 4000000 in
theorem fronts_iter (nf Bs0 mo cb n sz : Nat) (T : Nat → Bs) (L : List (Nat × Bs)) (bl dl : List Nat) (cbd : Nat) :
    IterGiftM nf Tryd.prog 28 #[.pointer (some ⟨cb, 0, none⟩)] (encF n) (gift n) Bs0 [] (MF mo cb n sz) (VF n sz T L Bs0) (fun xs => xs.length = L.length + 1) (fun pre => pre.length ≤ L.length + 1) (FindsF mo cb n sz T L bl dl cbd) := by
  intro l O Ox ol W hO hOx hOl hMF hY hBW h0 hC
  refine callsIn_wide.2 ?_
  obtain ⟨MA, hcb, hol⟩ := hC
  have hlens := MA.lens
  obtain ⟨tm, nm, mT, mN, bT, bN, v, E, h⟩ := MA
  obtain ⟨av, cv, rfl, _, _, _⟩ := wrow_slice h.row
  have hEL : E.length = L.length := by rw [← h.lay]; simp
  have c0 : W.cell? ⟨cb, 0, none⟩ = some (.pointer (some ⟨mo, 0, none⟩)) := cell_of_one hcb
  have hcl := lt_of_block hcb
  have hml := lt_of_block h.blk
  have HYY := Lib.hid hY
  have HOO := Lib.hid (And.intro hO (And.intro hOx (And.intro hOl hMF)))
  have HFr : Hid (∀ ol' X Y, Below X.heap.size X Y → Fr Bs0 [] ol' X Y) := fun ol' X Y b => .below b
  have HI := Lib.hid (And.intro h (And.intro h0 (And.intro hol (And.intro hEL hlens))))
  obtain ⟨N, hN⟩ : ∃ N, N = E.length := ⟨_, rfl⟩
  have HSS : Hid (∀ X : World, Below W.heap.size W X → (X.cell? ⟨cb, 0, none⟩ = some (.pointer (some ⟨mo, 0, none⟩)) ∧ X.cell? ⟨mo, 4, none⟩ = some (.slice av N cv) ∧ X.cell? ⟨mo, 2, none⟩ = some (.map (some tm)))) := fun X b => by
    have hb := (b.block mo hml).trans h.blk
    exact ⟨(b.cell (p := ⟨cb, 0, none⟩) hcl).trans c0, by rw [hN]; exact (mo_cells hb).2.2.2.2.1, (mo_cells hb).2.2.1⟩
  have HSl : Hid (∀ X : World, Below W.heap.size W X → Calls Tryd.prog 29 #[.slice av N cv] X fun e w' => ∃ v1, e = .returned v1 ∧ (w'.cell? ⟨cb, 0, none⟩ = some (.pointer (some ⟨mo, 0, none⟩)) ∧ w'.cell? ⟨mo, 4, none⟩ = some (.slice av N cv) ∧ w'.cell? ⟨mo, 2, none⟩ = some (.map (some tm))) ∧ w'.ownsRow X.heap.size 67 2 v1 E.length (wcells E) ∧ Below X.heap.size X w' ∧ Below W.heap.size W w') := fun X b => by
    rw [hN]
    refine (wclone_any (wrow_keep h.row fun g hg => b.block g (h.row.lt g hg).2) (by have := h.cnt; omega)).mono ?_
    rintro e w' ⟨v1, rfl, h1, h2⟩
    have b2 := b.trans (h2.mono b.size)
    exact ⟨v1, rfl, by rw [← hN]; exact HSS.out w' b2, h1, h2, b2⟩
  have HMc : Hid (∀ X : World, Below W.heap.size W X → Calls Tryd.prog 30 #[.map (some tm)] X fun e w' => e = .returned (.map (some X.heap.size)) ∧ (w'.cell? ⟨cb, 0, none⟩ = some (.pointer (some ⟨mo, 0, none⟩)) ∧ w'.cell? ⟨mo, 4, none⟩ = some (.slice av N cv) ∧ w'.cell? ⟨mo, 2, none⟩ = some (.map (some tm))) ∧ MapS w' X.heap.size mT bT ∧ Below X.heap.size X w' ∧ Below W.heap.size W w') := fun X b => by
    refine (mclone_any (h.mapT.keep (b.block tm h.mapT.lt))).mono ?_
    rintro e w' ⟨rfl, h1, h2, _⟩
    have b2 := b.trans (h2.mono b.size)
    exact ⟨rfl, HSS.out w' b2, h1, h2, b2⟩
  have hZ0 : Below W.heap.size W W.drew := (Drawn.mk W 1).below _
  have hS0 := HSS.out _ hZ0
  have HN := Lib.hid hN
  clear hO hOx hOl hMF hY h0 hcb hol hlens h hEL hcl hml hN c0
  go_enter Tryd.func28, Tryd.ntmps28
  go_upto_region 0 with (fail)
  go_region_held3 (fun X => (X.cell? ⟨cb, 0, none⟩ = some (.pointer (some ⟨mo, 0, none⟩)) ∧ X.cell? ⟨mo, 4, none⟩ = some (.slice av N cv) ∧ X.cell? ⟨mo, 2, none⟩ = some (.map (some tm))))
    (first | assumption | exact HSS.out _ (by assumption))
    ((first
      | (go_at_call 29; refine Calls.mono (HSl.out _ (by assumption)) ?_; rintro e wA ⟨v1, rfl, hSA, hrA, hbA, hZA⟩)
      | (go_at_call 30; refine Calls.mono (HMc.out _ (by assumption)) ?_; rintro e wB ⟨rfl, hSB, hmB, hbB, hZB⟩)))
  obtain ⟨cm, hcm⟩ : ∃ cm, cm = wA.heap.size := ⟨_, rfl⟩
  have HCM : Hid ((∀ k ∈ dl, k ≠ cm) ∧ v1.ownBlock ≠ some cm ∧ W.heap.size ≤ cm) := ⟨fun k hk e => by have := HI.out.1.dlt k hk; have := hZA.size; omega, fun e => by have := (hrA.lt cm e).2; omega, by rw [hcm]; exact hZA.size⟩
  have HI1 : Hid (ItF n sz T L E dl W.heap.size cm bT v1 O 0 wB) := by
    rw [← hcm] at hmB
    exact itf_start HI.out.1 (HOO.out.1 _ _ _ _ HI.out.2.1 (HFr.out _ _ _ hZB)) HI.out.2.2.1 (HOO.out.2.2.1 _ _ _ HI.out.2.1) hZB (wrow_keep (weaken hrA) fun g hg => hbB.block g (hrA.lt g hg).2) (fun k hk => (hrA.lt k hk).1) hmB (by rw [hcm]; exact hZA.size)
  rw [← hcm]
  obtain ⟨wz, hwz⟩ : ∃ wz, wz = wB := ⟨_, rfl⟩
  rw [← hwz] at HI1 ⊢
  clear hSA hrA hbA hZA hSB hmB hbB hZB hZ0 hS0 hwz hcm HSS HSl HMc
  obtain ⟨a1, c1, rfl, hc1, hc2, _⟩ : ∃ a c, v1 = .slice a N c ∧ N ≤ c ∧ c ≤ maxLen ∧ True := by
    obtain ⟨_, _, _, _, _, hr, _⟩ := HI1.out
    obtain ⟨a, c, h1, h2, h3, _⟩ := wrow_slice hr
    rw [← HN.out] at h1 h2
    exact ⟨a, c, h1, h2, h3, trivial⟩
  unfold maxLen at hc2
  have hN1 : (N : Int) ≤ 1000 := by have := HI.out.2.2.2.1; have := HI.out.2.2.2.2; have := HN.out; omega
  go_wp2_with fail
  go_loopg [5] (N + 1) (fun gh s5 wx => ∃ i : Nat, gh = N + 1 - i ∧ i ≤ N ∧ s5 = .int .i64 (i : Int) ∧ Hid (ItF n sz T L E dl W.heap.size cm bT (.slice a1 N c1) O i wx))
  case atStart => exact ⟨0, rfl, Nat.zero_le _, rfl, HI1⟩
  case round =>
    clear HI1
    obtain ⟨i, hg, hin, rfl, HX⟩ := hrel
    have HG := Lib.hid (And.intro hg hin)
    clear hg
    obtain ⟨w4, rfl⟩ : ∃ w', w' = wr := ⟨_, rfl⟩
    have x0 : (0 : Int) ≤ (i : Int) := by omega
    have x9 : (i : Int) ≤ 1000 := by omega
    obtain ⟨pre, ol', m, hpl, hO4, hr4, hm4, hh4, hin4, he4, hd4, hv4, hc4, hB4⟩ := HX.out
    obtain ⟨hcb4, cc, dd, vv, hmo4⟩ := HOO.out.2.2.2 _ _ _ hO4
    have c0 : w4.cell? ⟨cb, 0, none⟩ = some (.pointer (some ⟨mo, 0, none⟩)) := cell_of_one hcb4
    have HAll := Lib.hid (all_any (mo_cells hmo4).1 (mo_cells hmo4).2.1 HI.out.1.num.2.1 HI.out.1.num.2.2.2 hm4 hin4 (fun k hk => (hd4 k hk).2) hh4 (app_len _ _ HI.out.1.lens fun p hp => (HI.out.2.2.2.2.2.1 p (List.mem_of_mem_take hp)).2))
    have H4 := Lib.hid (And.intro hpl (And.intro hO4 (And.intro hr4 (And.intro hm4 (And.intro hh4 (And.intro hin4 (And.intro he4 (And.intro hd4 (And.intro hv4 (And.intro hc4 hB4))))))))))
    clear hpl hO4 hr4 hm4 hh4 hin4 he4 hd4 hv4 hc4 hB4 hcb4 hmo4 HX hin
    refine (wpIn_wide (n := nf)).1 ?_
    gi_wp2
    refine ⟨trivial, fun e => by simp [Fence.wide] at e, ?_⟩
    refine CallsIn.mono (callsIn_wide.2 HAll.out) ?_
    rintro e6 w6 ⟨kb, rfl, hA6, b6⟩
    have hgf : ∀ k ∈ gift n ⟨i, w4.heap.size, kb⟩, w4.heap.size ≤ k := fun k hk => by
      unfold gift at hk
      rcases List.mem_cons.1 hk with rfl | hk
      · exact Nat.le_refl _
      · obtain ⟨j, hj, rfl⟩ := List.mem_map.1 hk
        exact Nat.le_of_lt (hA6.2.1 j (List.mem_range.1 hj)).2
    have hVF : VF n sz T L Bs0 pre ⟨i, w4.heap.size, kb⟩ ol' w6 := by
      refine ⟨H4.out.1.symm, ?_, hA6, fun k hk hm => ?_, fun k hk => ?_⟩
      · have := HG.out.2; have := HN.out; have := HI.out.2.2.2.1; show i ≤ L.length; omega
      · have h1 := HOO.out.2.2.1 _ _ _ H4.out.2.1 k hm
        have h2 := hgf k hk
        omega
      · exact Nat.le_trans hBW (Nat.le_trans H4.out.2.2.2.2.2.2.2.2.2.2 (hgf k hk))
    obtain ⟨fn, tmps, assign, body, hy, hR⟩ := HYY.out pre ⟨i, w4.heap.size, kb⟩ ol' w6 (HOO.out.1 _ _ _ _ H4.out.2.1 (HFr.out _ _ _ b6)) hVF
    have HR := Lib.hid hR
    have H6 := Lib.hid (And.intro hA6 (And.intro b6 hgf))
    clear hR hA6 b6 hgf hVF c0 HAll
    gi_wp2
    refine ⟨fun e => by simp [Fence.wide] at e, (roundIn_wide HR.out).mono ?_⟩
    rintro e W7 ⟨ol2, ht, (⟨rfl, hO7⟩ | ⟨rfl, cx, hO7⟩)⟩
    · by_cases hlt : i < N
      · have x1 : (i : Int) < (N : Int) := by omega
        have hK := ItF.kept H4.out.2.2.1 H4.out.2.2.2.1 H4.out.2.2.2.2.1 H4.out.2.2.2.2.2.1 H4.out.2.2.2.2.2.2.1 HI.out.1.inE H4.out.2.2.2.2.2.2.2.1 H4.out.2.2.2.2.2.2.2.2.1 H4.out.2.2.2.2.2.2.2.2.2.1 H6.out.2.1 H6.out.2.2 ht
        have HK7 := Lib.hid (And.intro hK hO7)
        have HL := Lib.hid hlt
        clear ht hO7 HR hy hK hlt
        gi_wp2
        refine wpIn_wide.2 ?_
        refine wp_region_still_tail 11 (by kernel_rfl) (by kernel_rfl) ?_
        simp only [List.take_succ_cons, List.take_zero, List.drop_succ_cons, List.drop_zero]
        change wpStill _ _ W7.drew (fun a' => wpList _ _ _ _ a' W7.drew) _ _
        have hiE : i < E.length := by rw [← HN.out]; exact HL.out
        obtain ⟨e, he⟩ : ∃ e, E[i]? = some e := ⟨E[i], List.getElem?_eq_getElem hiE⟩
        have hmem := List.mem_of_getElem? he
        have bd : Below W7.heap.size W7 W7.drew := (Drawn.mk W7 1).below W7.heap.size
        obtain ⟨g, hgq, e0, e1⟩ := wrow_cells (w := W7.drew) (wrow_keep HK7.out.1.1 fun g hg => bd.block g (HK7.out.1.2.2.2.2.2.1 g hg).2) he
        cases hgq
        obtain ⟨w8, hput, hm8, ht8⟩ := (MapS.keep (w' := W7.drew) HK7.out.1.2.1 (bd.block cm HK7.out.1.2.1.lt)).put (by have := HI.out.1.cnt; have := HI.out.2.2.2.1; unfold maxLen; omega) (wf_nat e.key (by have := HI.out.1.num; have := (HI.out.1.ents e hmem).2.1; omega)) e.d
        have hput' : (Instr.mapUpdate 60 (.map (some cm)) (.int .i64 (e.key : Int)) (.slice e.d.addr e.d.n e.d.c)).run Tryd.prog W7.drew = .ok () w8 := hput
        have HNx : Hid (ItF n sz T L E dl W.heap.size cm bT (.slice (some ⟨g, 0, none⟩) N c1) O (i + 1) w8) := by
          obtain ⟨t1, t2, t3, t4, t5⟩ := ht8
          obtain ⟨⟨hr7, hm7, hh7, he7, hd7, hv7, hc7, hs7⟩, hO7⟩ := HK7.out
          have hgl := hv7 g rfl
          have hs8 : W7.heap.size = w8.heap.size := t4.symm
          have od : ∀ k ∈ dl, w8.heap[k]? = W7.heap[k]? := fun k hk => t5 k (HCM.out.1 k hk)
          have hE8 : ∀ d ∈ E, Dat w8 d.d d.l := fun d hd => (he7 d hd).same (Nat.le_of_eq hs8) fun p hp => od _ (HI.out.1.inE d hd p hp)
          have hL8 : L.take (i + 1) = L.take i ++ [(e.key, e.l)] := by
            rw [← HI.out.1.lay, List.take_add_one, List.getElem?_map, he]; rfl
          refine ⟨pre ++ [⟨i, w4.heap.size, kb⟩], ol2, upM m (e.key : Int) e.d, by rw [List.length_append, H4.out.1]; rfl, ?_, wrow_keep hr7 fun k hk => t5 k fun x => HCM.out.2.1 (by rw [← x]; exact hk), hm8, ?_, fun k x hx => ?_, hE8, fun k hk => ⟨(hd7 k hk).1, by have := (hd7 k hk).2; omega⟩, fun k hk => ⟨(hv7 k hk).1, by have := (hv7 k hk).2; omega⟩, hc7, by have := H4.out.2.2.2.2.2.2.2.2.2.2; omega⟩
          · exact HOO.out.1 _ _ _ _ hO7 ⟨t1, t2, t3, Nat.le_of_eq hs8, fun k hk _ => t5 k fun x => by
              rcases hk with ⟨hk, _⟩ | hk
              · have := HCM.out.2.2; omega
              · exact hc7 (by rw [← x]; exact hk)⟩
          · rw [hL8, app_snoc]
            exact (hh7.same H4.out.2.2.2.2.2.1 (Nat.le_of_eq hs8) od).up e.key e.d e.l (hE8 e hmem)
          · unfold upM at hx
            split at hx
            · cases hx
              exact HI.out.1.inE e hmem
            · exact H4.out.2.2.2.2.2.1 k x hx
        clear bd hput hm8 ht8 hmem he hiE HK7 H6 H4
        generalize W7.drew = w9 at e0 e1 hput' ⊢
        iterate 11 still_step
        refine wpStill_nil ?_
        go_wp2_with fail
        refine wpIn_wide.2 ?_
        go_wp2_with fail
        go_roundg (N + 1 - (i + 1))
        case measure => have := HG.out; have := HL.out; omega
        case rel => exact ⟨i + 1, rfl, HL.out, by go_num, HNx⟩
      · obtain rfl : i = N := by have := HG.out.2; omega
        have x1 : ¬ (i : Int) < (i : Int) := by omega
        have x2 : decide ((i : Int) < (i : Int)) = false := decide_eq_false x1
        have HE : Hid ((pre ++ [(⟨i, w4.heap.size, kb⟩ : Fd)]).length = L.length + 1 ∧ O (pre ++ [⟨i, w4.heap.size, kb⟩]) ol2 W7) := ⟨by rw [List.length_append, H4.out.1]; have := HI.out.2.2.2.1; have := HN.out; show i + 1 = _; omega, hO7⟩
        clear ht hO7 HR hy hlt H6
        gi_wp2
        go_wp2_with fail
        go_end0
        exact ⟨⟨_, rfl⟩, .inl ⟨_, _, HE.out.1, HE.out.2⟩⟩
    · have HE : Hid ((pre ++ [(⟨i, w4.heap.size, kb⟩ : Fd)]).length ≤ L.length + 1 ∧ Ox cx (pre ++ [⟨i, w4.heap.size, kb⟩]) ol2 W7) := ⟨by rw [List.length_append, H4.out.1]; have := HG.out.2; have := HI.out.2.2.2.1; have := HN.out; show i + 1 ≤ _; omega, hO7⟩
      clear ht hO7 HR hy H6
      gi_wp2
      go_wp2_with fail
      go_end0
      exact ⟨⟨_, rfl⟩, .inr ⟨_, cx, _, HE.out.1, HE.out.2⟩⟩
end Go.Proofs.YtbngkmlipmhgdaaDoor.Mo
