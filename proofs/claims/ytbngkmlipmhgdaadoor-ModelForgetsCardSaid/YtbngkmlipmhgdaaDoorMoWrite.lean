/- A model's Write and Trim. By the verifier of shale. -/
import Derived.Test.YtbngkmlipmhgdaaDoorMoNew
namespace Go.Proofs.YtbngkmlipmhgdaaDoor.Mo
open Go Go.RowKit Bin
set_option linter.unusedVariables false
set_option linter.unusedSimpArgs false
theorem infoW : ∃ i, Tryd.prog.info? 67 = some i ∧ i.zero = some (.agg #[.int .i64 0, .slice none 0 0]) ∧ i.size = 2 ∧ i.bytes = 32 :=
  info_parts (show (Tryd.prog.info? 67).map (fun i => (i.zero, i.size, i.bytes)) = some (some (.agg #[.int .i64 0, .slice none 0 0]), 2, 32) by kernel_rfl)
theorem newW (w W : World) (k : Int) (s : Value) (h : w.alloc (.cells #[.int .i64 k, s] 67 (0, 0)) = W) : W.heap[w.heap.size]? = some (.cells #[.int .i64 k, s] 67 (0, 0)) ∧ Below w.heap.size w W ∧ W.heap.size = w.heap.size + 1 := by
  subst h
  exact ⟨heap_alloc_new w _, (Below.refl _ _).alloc (Nat.le_refl _) _, by simp⟩
theorem two_cells {w : World} {s : Nat} {a b : Value} {t : TypeId} (e : w.heap[s]? = some (.cells #[a, b] t (0, 0))) : w.cell? ⟨s, 0, none⟩ = some a ∧ w.cell? ⟨s, 1, none⟩ = some b ∧ ∀ i, w.frozen? ⟨s, i, none⟩ = false := by
  refine ⟨?_, ?_, fun i => ?_⟩
  · unfold World.cell?; simp only; rw [e]; rfl
  · unfold World.cell?; simp only; rw [e]; rfl
  · unfold World.frozen?; simp only; rw [e]; rfl
/-- what the region that appends wants to know. -/
structure AppIn (w : World) (mo : Nat) (v : Value) (E : List We) (e : We) : Prop where
  c4 : w.cell? ⟨mo, 4, none⟩ = some v
  k4 : ((w.alloc (.cells #[.int .i64 (e.key : Int), sdV e.d] 67 (0, 0))).drew).cell? ⟨mo, 4, none⟩ = some v
  own : ((w.alloc (.cells #[.int .i64 (e.key : Int), sdV e.d] 67 (0, 0))).drew).ownsRow 0 67 2 v E.length (wcells E)
  news : ∀ j u, e.cells[j]? = some u → ((w.alloc (.cells #[.int .i64 (e.key : Int), sdV e.d] 67 (0, 0))).drew).cell? ((⟨w.heap.size, 0, none⟩ : Addr).add j) = some u
  one : ∀ u ∈ e.cells, u.oneCell' = true
  q3 : ∀ w9, ((w.alloc (.cells #[.int .i64 (e.key : Int), sdV e.d] 67 (0, 0))).drew).grownBy w9 v.ownBlock → w9.cell? ⟨mo, 4, none⟩ = some v ∧ w9.frozen? ⟨mo, 4, none⟩ = false
theorem app_in {w : World} {mo n sz : Nat} {T : Nat → Bs} {L : List (Nat × Bs)} {bl dl : List Nat} {cb tm nm : Nat} {mT mN : Int → Option Sd} {bT bN : Nat} {v : Value} {E : List We} (h : MoIn w mo n sz T L bl dl cb tm nm mT mN bT bN v E) (e : We) : AppIn w mo v E e := by
  have b : Below w.heap.size w (w.alloc (.cells #[.int .i64 (e.key : Int), sdV e.d] 67 (0, 0))).drew := ((Below.refl _ _).alloc (Nat.le_refl _) _).drew
  have hml := lt_of_block h.blk
  have hb := (b.block mo hml).trans h.blk
  refine ⟨(mo_cells h.blk).2.2.2.2.1, (mo_cells hb).2.2.2.2.1, wrow_keep h.row fun g hg => b.block g (h.row.lt g hg).2, ?_, ?_, fun w9 hg => ?_⟩
  · exact World.news_of_block (cs := #[.int .i64 (e.key : Int), sdV e.d]) (fr := (0, 0)) (t := 67) (heap_alloc_new w _)
  · intro u hu
    unfold We.cells at hu
    simp only [List.mem_cons, List.not_mem_nil, or_false] at hu
    rcases hu with rfl | rfl <;> rfl
  · have h9 : w9.heap[mo]? = _ := (hg.block mo (lt_of_block hb) (Ne.symm h.nod.2.2.2.1)).trans hb
    exact ⟨(mo_cells h9).2.2.2.2.1, (mo_cells h9).2.2.2.2.2 4⟩
/-- what Write leaves. -/
def WrotePost (w : World) (mo n sz : Nat) (T : Nat → Bs) (L : List (Nat × Bs)) (bl dl : List Nat) (cb : Nat) (w' : World) : Prop :=
  ∃ bl' dl', MoAt w' mo n sz T L bl' dl' cb ∧ Tn bl w w' bl' ∧ ∀ x ∈ dl', x ∈ dl ∨ w.heap.size ≤ x
set_option maxRecDepth 100000 in
set_option maxHeartbeats 2000000 in
theorem write_yes {w : World} {mo n sz : Nat} {T : Nat → Bs} {L : List (Nat × Bs)} {bl dl : List Nat} {cb : Nat} (h : MoAt w mo n sz T L bl dl cb) (k : Nat) (hk : k < n) {a : Option Addr} {c : Nat} {l : Bs} (hP : Pol w a sz c l) (hc : cb + 1 ≤ 1000) :
    Calls Tryd.prog 12 #[.pointer (some ⟨mo, 0, none⟩), .int .i64 (k : Int), .slice a sz c] w fun e w' => e = .returned .nilIface ∧ WrotePost w mo n sz T (L ++ [(k, l)]) bl dl (cb + 1) w' := by
  obtain ⟨i0, hi0, hz0, hz1, hz2⟩ := infoW
  obtain ⟨tm, nm, mT, mN, bT, bN, v, E, h⟩ := h
  have q0 := (mo_cells h.blk).1
  have q1 := (mo_cells h.blk).2.1
  have HM := Lib.hid (may_yes q0 q1 k hk a c)
  have HC := Lib.hid (clone_any a sz c l w hP (by have := h.num; omega))
  have HH := Lib.hid (And.intro h (And.intro hk (And.intro hc hP.hlen)))
  clear h hk hc hP q0 q1
  go_enter Tryd.func12, Tryd.ntmps12
  go_wp2_with fail
  refine HM.out.mono ?_
  rintro e w' ⟨rfl, rfl⟩
  clear HM
  go_wp2_with fail
  refine HC.out.mono ?_
  rintro e w1 ⟨a1, c1, rfl, N1, b1⟩
  obtain ⟨gd, rfl, hgd⟩ : ∃ gd, a1 = some ⟨gd, 0, none⟩ ∧ w.heap.size ≤ gd := by
    rcases N1.own with ⟨_, h0, _⟩ | ⟨g, h1, h2, _⟩
    · have := HH.out.1.num; omega
    · exact ⟨g, h1, h2⟩
  have hD1 : Dat w1 ⟨some (gd, 0), sz, c1⟩ l := N1.pol
  have hgl : gd < w1.heap.size := by
    rcases N1.own with ⟨h0, _⟩ | ⟨g, h1, _, h3⟩
    · cases h0
    · cases h1; exact h3.lt
  clear HC N1
  go_upto_region 5 with (fail)
  generalize hw : w1.alloc (.cells #[.int .i64 (k : Int), .slice (some ⟨gd, 0, none⟩) sz c1] 67 (0, 0)) = w3
  obtain ⟨K3, b3, s3⟩ := newW w1 w3 _ _ hw
  obtain ⟨eb, heb⟩ : ∃ eb, eb = w1.heap.size := ⟨_, rfl⟩
  rw [← heb] at K3 ⊢
  clear hw
  obtain ⟨e, he⟩ : ∃ e : We, e = ⟨k, ⟨some (gd, 0), sz, c1⟩, l⟩ := ⟨_, rfl⟩
  have b13 := b1.trans (b3.mono b1.size)
  have h3 := HH.out.1.keep b13.size fun z hz => b13.block z (by
    rcases hz with hz | hz
    · exact HH.out.1.blt z hz
    · exact HH.out.1.dlt z hz)
  have HI := Lib.hid (app_in h3 e)
  have hex : e.key = k ∧ e.d = ⟨some (gd, 0), sz, c1⟩ ∧ e.l = l := by rw [he]; exact ⟨rfl, rfl, rfl⟩
  have HB : Hid (Below w.heap.size w w3 ∧ Dat w3 e.d e.l ∧ e.d.q = some (gd, 0) ∧ gd < w3.heap.size ∧ gd ∉ bl ∧ w3.heap.size = eb + 1 ∧ eb ∉ bl ∧ w.heap.size ≤ gd) := by
    refine ⟨b13, by rw [he]; exact hD1.below b3, by rw [he], by omega, fun hm => ?_, by omega, fun hm => ?_, hgd⟩
    · have := HH.out.1.blt gd hm; omega
    · have := HH.out.1.blt eb hm; have := b1.size; omega
  have H3 := Lib.hid h3
  have HK3 := Lib.hid K3
  obtain ⟨c0, c1x, cf⟩ := two_cells K3
  obtain ⟨av, cv, rfl, hnc, hcm, hnil⟩ := wrow_slice h3.row
  unfold maxLen at hcm
  obtain ⟨N, hN⟩ : ∃ N, N = E.length := ⟨_, rfl⟩
  have hN1 : N ≤ 1000 := by
    have h5 : E.length = L.length := by rw [← h3.lay]; simp
    have := h3.cnt; omega
  have m4 := HI.out.c4
  have k4 := HI.out.k4
  have hO := HI.out.own
  have hQ := HI.out.q3
  have hNw := HI.out.news
  rw [← hN] at m4 k4 hO hQ hnc
  rw [hex.2.1, hex.1] at k4 hO hQ hNw
  simp only [sdV, Sd.addr, Option.map_some] at k4 hO hQ hNw
  have HO := Lib.hid hO
  have HQ := Lib.hid hQ
  have HNw := Lib.hid hNw
  have HN := Lib.hid hN
  have HX := Lib.hid hex
  clear h3 K3 b1 b3 b13 hD1 hgd hgl heb s3 he hO hQ hNw hN hex HI cf
  have HOne : Hid (∀ u ∈ e.cells, u.oneCell' = true) := fun u hu => by
    unfold We.cells at hu
    simp only [List.mem_cons, List.not_mem_nil, or_false] at hu
    rcases hu with rfl | rfl <;> rfl
  go_region_law (refine step_append_lies _ (by rfl) _ _ _ (by rfl) 0 67 i0 (.agg #[.int .i64 0, .slice none 0 0]) 2 32 Tryd.underlying61 hi0 hz0 hz1 hz2 rfl (by decide) (.slice av N cv) N (wcells E) (by rfl) HO.out ⟨w3.heap.size, 0, none⟩ 1 1 e.cells (by rfl) rfl HNw.out HOne.out (by decide) (by unfold maxLen; omega) (by omega) (Nat.zero_le _) (w3.heap.size + 1) (by simp) ?_; intro g1 cap1 w9 hown9 hg9 hor9 hlt9; have q3 := (HQ.out w9 hg9).1; have q4 := (HQ.out w9 hg9).2)
  all_goals
    have H9 := Lib.hid (And.intro hown9 (And.intro hg9 hor9))
    have hgr9 : ∀ z, z < w3.heap.size → (Value.slice av N cv).ownBlock ≠ some z → w9.heap[z]? = w3.heap[z]? := fun z hz hv => (hg9.block z (by rw [World.drew]; show z < (w3.alloc _).heap.size; rw [World.size_alloc]; omega) (Ne.symm hv)).trans (Below.heap_alloc w3 _ _ hz)
    have HG9 := Lib.hid hgr9
    clear hown9 hg9 hor9 hlt9 hgr9 q3 q4 HO HQ HNw k4 m4 c0 c1x
    go_upto_region 6 with (fail)
    generalize hw10 : w9.setCell ⟨mo, 4, none⟩ (.slice (some ⟨g1, 0, none⟩) (N + 1) cap1) = w10
    have o10 : Only mo w9 w10 := by rw [← hw10]; exact Only.setCell w9 ⟨mo, 4, none⟩ _
    have HW10 := Lib.hid hw10
    refine wp_region_still_tail 7 (by kernel_rfl) (by kernel_rfl) ?_
    simp only [List.take_succ_cons, List.take_zero, List.drop_succ_cons, List.drop_zero]
    change wpStill _ _ w10.drew (fun a' => wpList _ _ _ _ a' w10.drew) _ _
    obtain ⟨n1, n2, n3, n4, n5, n6⟩ := H3.out.nod
    rw [← HN.out] at n4 n5 n6
    have hmo : w10.heap[mo]? = some (.cells #[.int .i64 (n : Int), .int .i64 (sz : Int), .map (some tm), .map (some nm), .slice (some ⟨g1, 0, none⟩) (N + 1) cap1] 63 (0, 0)) := by
      have h := (HG9.out mo (lt_of_block H3.out.blk) n4).trans H3.out.blk
      rw [← hw10]
      exact heap_setCell_same w9 mo 4 _ _ _ h
    have m3 : w10.drew.cell? ⟨mo, 3, none⟩ = some (.map (some nm)) := (mo_cells (w := w10.drew) hmo).2.2.2.1
    have hnm : MapS w10.drew nm mN bN := H3.out.mapN.keep ((o10.block nm (Ne.symm n2)).trans (HG9.out nm H3.out.mapN.lt n6))
    have heb : w10.drew.heap[eb]? = some (.cells #[.int .i64 (k : Int), .slice (some ⟨gd, 0, none⟩) sz c1] 67 (0, 0)) := by
      have hb := HB.out.2.2.2.2.2.2.1
      have hbs := HB.out.2.2.2.2.2.1
      have hbl := H3.out.bls
      rw [hbl] at hb
      simp only [List.mem_cons, not_or, Option.mem_toList] at hb
      refine (o10.block eb hb.1).trans ((HG9.out eb (by omega) ?_).trans HK3.out)
      rw [HN.out]
      exact hb.2.2.2
    have e1 := (two_cells heb).2.1
    have hbN : bN < maxLen := by have := H3.out.cnt; unfold maxLen; omega
    obtain ⟨w12, hput, hm12, ht12⟩ := hnm.put hbN (wf_nat k (by have := HH.out.1.num; have := HH.out.2.1; omega)) ⟨some (gd, 0), sz, c1⟩
    have hput' : (Instr.mapUpdate 60 (.map (some nm)) (.int .i64 (k : Int)) (.slice (some ⟨gd, 0, none⟩) sz c1)).run Tryd.prog w10.drew = .ok () w12 := hput
    have HR : Hid (WrotePost w mo n sz T (L ++ [(k, l)]) bl dl (cb + 1) w12) := by
      obtain ⟨x1, x2, x3⟩ := HX.out
      obtain ⟨b13, hD, hq, hgl, hgb, _, _, hgd⟩ := HB.out
      have h := H3.out.wrote (e := e) (g := g1) (gd := gd) (cap := cap1) (wa := (w3.alloc (.cells #[.int .i64 (k : Int), .slice (some ⟨gd, 0, none⟩) sz c1] 67 (0, 0))).drew) (w9 := w9) (w12 := w12) hD (by rw [x1]; exact HH.out.2.1) (by rw [x3]; exact HH.out.2.2.2.symm) ⟨0, hq⟩ hgl hgb HH.out.2.2.1
        (((Below.refl _ _).alloc (Nat.le_refl _) _).drew) (by rw [← HN.out]; exact H9.out.1) (by rw [← HN.out]; exact H9.out.2.1) (by
          have h5 := H9.out.2.2
          rw [HN.out] at h5
          rcases h5 with h5 | h5
          · exact .inl h5
          · exact .inr (by rw [h5]; show _ = (w3.alloc _).heap.size; rw [World.size_alloc])) (by rw [x1, x2]; exact hm12) (by rw [← HN.out, HW10.out]; exact ht12)
      rw [x1, x3] at h
      refine ⟨_, _, ⟨_, _, _, _, _, _, _, _, h.1⟩, (Tn.below b13 : Tn bl w w3 bl).trans h.2, fun x hx => ?_⟩
      rcases List.mem_cons.1 hx with rfl | hx
      · exact .inr hgd
      · exact .inl hx
    clear hw10 o10 n1 n2 n3 n4 n5 n6 hmo hnm heb hbN hput hm12 ht12 H9 HG9
    generalize w10.drew = w11 at m3 e1 hput' ⊢
    iterate 7 still_step
    refine wpStill_nil ?_
    go_wp2_with fail
    go_ret
    exact ⟨rfl, HR.out⟩
set_option maxHeartbeats 1000000 in
theorem trim_yes {w : World} {mo n sz : Nat} {T : Nat → Bs} {L : List (Nat × Bs)} {bl dl : List Nat} {cb : Nat} (h : MoAt w mo n sz T L bl dl cb) (k : Nat) (hk : k < n) (hc : cb + 1 ≤ 1000) :
    Calls Tryd.prog 11 #[.pointer (some ⟨mo, 0, none⟩), .int .i64 (k : Int)] w fun e w' => e = .returned .nilIface ∧ WrotePost w mo n sz T (L ++ [(k, zerosL sz)]) bl dl (cb + 1) w' := by
  have hl := h.lens
  have hmk := made8 w sz (by omega)
  have b0 : Below w.heap.size w (w.alloc (obj8 (List.replicate sz 0))) := (Below.refl _ _).alloc (Nat.le_refl _) _
  have K0 : Blk8 (w.alloc (obj8 (List.replicate sz 0))) w.heap.size (zerosL sz) := Blk8.new w _
  have hd : Dat (w.alloc (obj8 (List.replicate sz 0))) ⟨some (w.heap.size, 0), sz, sz⟩ (zerosL sz) := dat_of_blk K0 (by simp [zerosL]) (by omega)
  have HW := Lib.hid (write_yes (h.below b0) k hk hd hc)
  obtain ⟨_, _, _, _, _, _, _, _, hi⟩ := h
  have q1 := (mo_cells hi.blk).2.1
  obtain ⟨w1, hw1⟩ : ∃ w1, w1 = w.alloc (obj8 (List.replicate sz 0)) := ⟨_, rfl⟩
  rw [← hw1] at hmk HW b0
  have HB := Lib.hid b0
  clear hw1 hd K0 hl hk hc hi b0
  go_enter Tryd.func11, Tryd.ntmps11
  go_wp2_with fail
  refine HW.out.mono ?_
  rintro e w2 ⟨rfl, bl', dl', h1, h2, h3⟩
  have HR : Hid (WrotePost w mo n sz T (L ++ [(k, zerosL sz)]) bl dl (cb + 1) w2) := ⟨bl', dl', h1, (Tn.below HB.out : Tn bl w w1 bl).trans h2, fun x hx => by
    rcases h3 x hx with h | h
    · exact .inl h
    · exact .inr (Nat.le_trans HB.out.size h)⟩
  clear h1 h2 h3 HW hmk q1
  go_wp2_with fail
  go_ret
  exact ⟨rfl, HR.out⟩
end Go.Proofs.YtbngkmlipmhgdaaDoor.Mo
