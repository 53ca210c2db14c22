/- A model's settle and Flush. By the verifier of shale. -/
import Derived.Test.YtbngkmlipmhgdaaDoorMoWrite
namespace Go.Proofs.YtbngkmlipmhgdaaDoor.Mo
open Go Go.RowKit Bin
set_option linter.unusedVariables false
set_option linter.unusedSimpArgs false
/-- some of what waits is laid. -/
structure SetI (w : World) (mo n sz : Nat) (T : Nat → Bs) (L : List (Nat × Bs)) (bl dl : List Nat) (cb tm nm : Nat) (mT mN : Int → Option Sd) (bT bN : Nat) (v : Value) (E : List We) (i : Nat) (m : Int → Option Sd) (wx : World) : Prop where
  map : MapS wx tm m (bT + i)
  hol : Holds wx n sz (app T (L.take i)) m
  inm : MIn dl m
  tn : Tn [tm] w wx [tm]
theorem SetI.old {w wx : World} {mo n sz : Nat} {T : Nat → Bs} {L : List (Nat × Bs)} {bl dl : List Nat} {cb tm nm : Nat} {mT mN : Int → Option Sd} {bT bN : Nat} {v : Value} {E : List We} {i : Nat} {m : Int → Option Sd}
    (s : SetI w mo n sz T L bl dl cb tm nm mT mN bT bN v E i m wx) {k : Nat} (hk : k < w.heap.size) (hn : k ≠ tm) : wx.heap[k]? = w.heap[k]? := s.tn.same k hk (by simpa using hn)
theorem SetI.start {w : World} {mo n sz : Nat} {T : Nat → Bs} {L : List (Nat × Bs)} {bl dl : List Nat} {cb tm nm : Nat} {mT mN : Int → Option Sd} {bT bN : Nat} {v : Value} {E : List We}
    (h : MoIn w mo n sz T L bl dl cb tm nm mT mN bT bN v E) : SetI w mo n sz T L bl dl cb tm nm mT mN bT bN v E 0 mT w := ⟨h.mapT, h.holT, h.inT, Tn.refl _ _⟩
/-- a world in which nothing that the model holds is turned. -/
theorem SetI.below {w wx w' : World} {mo n sz : Nat} {T : Nat → Bs} {L : List (Nat × Bs)} {bl dl : List Nat} {cb tm nm : Nat} {mT mN : Int → Option Sd} {bT bN : Nat} {v : Value} {E : List We} {i : Nat} {m : Int → Option Sd}
    (h : MoIn w mo n sz T L bl dl cb tm nm mT mN bT bN v E) (s : SetI w mo n sz T L bl dl cb tm nm mT mN bT bN v E i m wx) (b : Below wx.heap.size wx w') : SetI w mo n sz T L bl dl cb tm nm mT mN bT bN v E i m w' :=
  ⟨s.map.keep (b.block tm s.map.lt), s.hol.same s.inm b.size (fun k hk => b.block k (Nat.lt_of_lt_of_le (h.dlt k hk) s.tn.size)), s.inm, s.tn.trans (Tn.below b)⟩
theorem SetI.next {w wx w' : World} {mo n sz : Nat} {T : Nat → Bs} {L : List (Nat × Bs)} {bl dl : List Nat} {cb tm nm : Nat} {mT mN : Int → Option Sd} {bT bN : Nat} {v : Value} {E : List We} {i : Nat} {m : Int → Option Sd} {e : We}
    (h : MoIn w mo n sz T L bl dl cb tm nm mT mN bT bN v E) (s : SetI w mo n sz T L bl dl cb tm nm mT mN bT bN v E i m wx) (he : E[i]? = some e) (hm : MapS w' tm (upM m (e.key : Int) e.d) (bT + i + 1)) (ht : Turned wx w' tm) :
    SetI w mo n sz T L bl dl cb tm nm mT mN bT bN v E (i + 1) (upM m (e.key : Int) e.d) w' := by
  obtain ⟨t1, t2, t3, t4, t5⟩ := ht
  have hi := (List.getElem?_eq_some_iff.1 he).1
  have hmem := List.mem_of_getElem? he
  have hL : L.take (i + 1) = L.take i ++ [(e.key, e.l)] := by
    rw [← h.lay, List.take_add_one, List.getElem?_map, he]; rfl
  have htl : tm ∉ dl := fun hd => h.dis tm hd (by rw [h.bls]; simp)
  have od : ∀ k ∈ dl, w'.heap[k]? = wx.heap[k]? := fun k hk => t5 k fun e => htl (by rw [← e]; exact hk)
  have hs : wx.heap.size ≤ w'.heap.size := by omega
  have hd : Dat w' e.d e.l := (h.ents e hmem).1.same (Nat.le_trans s.tn.size hs) fun p hp => by
    have hpd := h.inE e hmem p hp
    exact (od _ hpd).trans (s.old (h.dlt _ hpd) fun e => htl (by rw [← e]; exact hpd))
  refine ⟨hm, ?_, fun k x hx => ?_, s.tn.trans ⟨t1, t2, t3, hs, fun k _ hk => t5 k (by simpa using hk), fun _ hk => .inl hk⟩⟩
  · rw [hL, app_snoc]
    exact (s.hol.same s.inm hs od).up e.key e.d e.l hd
  · unfold upM at hx
    split at hx
    · cases hx
      exact h.inE e hmem
    · exact s.inm k x hx
/-- behind all of it. -/
theorem SetI.done {w wx wz : World} {mo n sz : Nat} {T : Nat → Bs} {L : List (Nat × Bs)} {bl dl : List Nat} {cb tm nm cm : Nat} {mT mN : Int → Option Sd} {bT bN : Nat} {v : Value} {E : List We} {i : Nat} {m : Int → Option Sd}
    (h : MoIn w mo n sz T L bl dl cb tm nm mT mN bT bN v E) (s : SetI w mo n sz T L bl dl cb tm nm mT mN bT bN v E i m wx) (hi : i ≤ L.length) (hc : cm = wx.heap.size) (hm : MapS wz cm m (bT + i))
    (hb : wz.heap[mo]? = some (.cells #[.int .i64 (n : Int), .int .i64 (sz : Int), .map (some tm), .map (some cm), .slice none 0 0] 63 (0, 0))) (t : Tn [mo] wx wz [mo]) :
    MoIn wz mo n sz (app T (L.take i)) [] [mo, tm, cm] dl cb tm cm m m (bT + i) (bT + i) (.slice none 0 0) [] ∧ Tn bl w wz [mo, tm, cm] := by
  have hml := lt_of_block h.blk
  have htl := h.mapT.lt
  have hsz := s.tn.size
  have tml : tm ∉ dl := fun hd => h.dis tm hd (by rw [h.bls]; simp)
  have mol : mo ∉ dl := fun hd => h.dis mo hd (by rw [h.bls]; simp)
  have od : ∀ k ∈ dl, wz.heap[k]? = wx.heap[k]? := fun k hk => t.same k (Nat.lt_of_lt_of_le (h.dlt k hk) hsz) (by
    simp only [List.mem_singleton]
    exact fun e => mol (by rw [← e]; exact hk))
  have hol := s.hol.same s.inm t.size od
  have hlens := (show MoAt w mo n sz T L bl dl cb from ⟨_, _, _, _, _, _, _, _, h⟩).lens
  refine ⟨?_, ?_⟩
  · exact {
      blk := hb
      mapT := s.map.keep (t.same tm s.map.lt (by simp only [List.mem_singleton]; exact Ne.symm h.nod.1))
      mapN := hm
      row := World.ownsRow_nil _ _ _ _
      bls := rfl
      nod := ⟨h.nod.1, by omega, by omega, by simp [Value.ownBlock], by simp [Value.ownBlock], by simp [Value.ownBlock]⟩
      dis := fun k hk => by
        have h1 := h.dlt k hk
        simp only [List.mem_cons, List.not_mem_nil, or_false, not_or]
        exact ⟨fun e => mol (by rw [← e]; exact hk), fun e => tml (by rw [← e]; exact hk), by omega⟩
      dlt := fun k hk => by have := h.dlt k hk; have := t.size; omega
      inT := s.inm
      inN := s.inm
      inE := fun e he => (nomatch he)
      holT := hol
      holN := hol
      lay := rfl
      ents := fun e he => (nomatch he)
      lens := app_len _ _ hlens.1 fun p hp => (hlens.2.1 p (List.mem_of_mem_take hp)).2
      num := h.num
      cnt := by
        have := h.cnt
        refine ⟨?_, by omega, by omega⟩
        show bT + i + 0 ≤ cb
        omega }
  · have t1 : Tn bl w wx bl := ⟨s.tn.os, s.tn.tape, s.tn.output, s.tn.size, fun k hk hn => s.old hk fun e => hn (by rw [h.bls, e]; simp), fun _ hk => .inl hk⟩
    refine t1.trans ⟨t.os, t.tape, t.output, t.size, fun k hk hn => t.same k hk (by
      simp only [List.mem_singleton]
      exact fun e => hn (by rw [h.bls, e]; simp)), fun k hk => ?_⟩
    simp only [List.mem_cons, List.not_mem_nil, or_false] at hk
    rcases hk with rfl | rfl | rfl
    · exact .inl (by rw [h.bls]; simp)
    · exact .inl (by rw [h.bls]; simp)
    · exact .inr (by omega)
/-- what settle leaves. -/
def SetPost (w : World) (mo n sz : Nat) (T : Nat → Bs) (bl dl : List Nat) (cb : Nat) (w' : World) : Prop :=
  ∃ bl', MoAt w' mo n sz T [] bl' dl cb ∧ Tn bl w w' bl'
set_option maxRecDepth 100000 in
set_option maxHeartbeats 2000000 in
theorem settle_any {w : World} {mo n sz : Nat} {T : Nat → Bs} {L : List (Nat × Bs)} {bl dl : List Nat} {cb : Nat} (h : MoAt w mo n sz T L bl dl cb) (k : Nat) (hk : k ≤ L.length) :
    Calls Tryd.prog 21 #[.pointer (some ⟨mo, 0, none⟩), .int .i64 (k : Int)] w fun e w' => e = .returned (.tuple #[]) ∧ SetPost w mo n sz (app T (L.take k)) bl dl cb w' := by
  obtain ⟨tm, nm, mT, mN, bT, bN, v, E, h⟩ := h
  obtain ⟨av, cv, rfl, hnc, hcm, hnil⟩ := wrow_slice h.row
  unfold maxLen at hcm
  have hEL : E.length = L.length := by rw [← h.lay]; simp
  obtain ⟨N, hN⟩ : ∃ N, N = E.length := ⟨_, rfl⟩
  have q4 := (mo_cells h.blk).2.2.2.2.1
  rw [← hN] at q4 hnc
  have hkN : k ≤ N := by omega
  have hN1 : N ≤ 1000 := by have := h.cnt; omega
  have y0 : (0 : Int) ≤ (k : Int) := by omega
  have y1 : (k : Int) ≤ (cv : Int) := by omega
  have y2 : (k : Int) ≤ (N : Int) := by omega
  have y3 : (k : Int) ≤ 1000 := by omega
  have HS0 := Lib.hid (SetI.start h)
  have HH := Lib.hid h
  have HK := Lib.hid (And.intro hk (And.intro hN hEL))
  clear h hk hN hEL hnil
  go_enter Tryd.func21, Tryd.ntmps21
  go_wp2_with fail
  go_loopg [13] k (fun gh s13 wx => ∃ i : Nat, gh = k - i ∧ i ≤ k ∧ s13 = .int .i64 (i : Int) ∧ ∃ m, Hid (SetI w mo n sz T L bl dl cb tm nm mT mN bT bN (.slice av E.length cv) E i m wx))
  case atStart => exact ⟨0, rfl, Nat.zero_le _, rfl, _, HS0⟩
  case round =>
    clear HS0 q4
    obtain ⟨i, hg, hin, rfl, m, HX⟩ := hrel
    have HI := Lib.hid hg
    clear hg
    by_cases hlt : i < k
    · have x1 : (i : Int) < (k : Int) := by omega
      have x0 : (0 : Int) ≤ (i : Int) := by omega
      have hiE : i < E.length := by have := HK.out; omega
      obtain ⟨e, he⟩ : ∃ e, E[i]? = some e := ⟨E[i], List.getElem?_eq_getElem hiE⟩
      have hrow : WRow wr (.slice av E.length cv) E := wrow_keep HH.out.row fun g hg => HX.out.old (HH.out.row.lt g hg).2 fun x => HH.out.nod.2.2.2.2.1 (by rw [hg, x])
      obtain ⟨g, rfl, c0, c1⟩ := wrow_cells hrow he
      have HE := Lib.hid (And.intro he hlt)
      clear hlt hin hiE he hrow
      go_upto_region 3 with (fail)
      generalize hw : wr.alloc (.cells #[.int .i64 (e.key : Int), .slice e.d.addr e.d.n e.d.c] 67 (0, 0)) = w2
      obtain ⟨K2, b2, _⟩ := newW wr w2 _ _ hw
      obtain ⟨eb, heb⟩ : ∃ eb, eb = wr.heap.size := ⟨_, rfl⟩
      rw [← heb] at K2 ⊢
      clear hw heb c0 c1
      have HX2 := Lib.hid (HX.out.below HH.out (b2.drew))
      refine wp_region_still_tail 8 (by kernel_rfl) (by kernel_rfl) ?_
      simp only [List.take_succ_cons, List.take_zero, List.drop_succ_cons, List.drop_zero]
      change wpStill _ _ w2.drew (fun a' => wpList _ _ _ _ a' w2.drew) _ _
      obtain ⟨e0, e1, _⟩ := two_cells (w := w2.drew) K2
      have m2 : w2.drew.cell? ⟨mo, 2, none⟩ = some (.map (some tm)) := (mo_cells ((HX2.out.old (lt_of_block HH.out.blk) HH.out.nod.1).trans HH.out.blk)).2.2.1
      have hmem := List.mem_of_getElem? HE.out.1
      obtain ⟨w3, hput, hm3, ht3⟩ := HX2.out.map.put (by have := HH.out.cnt; have := HK.out; have := HE.out.2; unfold maxLen; omega) (wf_nat e.key (by have := HH.out.num; have := (HH.out.ents e hmem).2.1; omega)) e.d
      have hput' : (Instr.mapUpdate 60 (.map (some tm)) (.int .i64 (e.key : Int)) (.slice e.d.addr e.d.n e.d.c)).run Tryd.prog w2.drew = .ok () w3 := hput
      have HN := Lib.hid (HX2.out.next HH.out HE.out.1 hm3 ht3)
      clear K2 b2 hmem hput hm3 ht3 HX2
      generalize w2.drew = w4 at e0 e1 m2 hput' ⊢
      iterate 8 still_step
      refine wpStill_nil ?_
      go_wp2_with fail
      go_roundg (k - (i + 1))
      case measure => have := HI.out; have := HE.out.2; omega
      case rel => exact ⟨i + 1, rfl, HE.out.2, by go_num, _, HN⟩
    · obtain rfl : i = k := by omega
      have x1 : ¬ (i : Int) < (i : Int) := by omega
      have x2 : decide ((i : Int) < (i : Int)) = false := decide_eq_false x1
      have hblk := (HX.out.old (lt_of_block HH.out.blk) HH.out.nod.1).trans HH.out.blk
      obtain ⟨d0, d1, d2, d3, d4, df⟩ := mo_cells hblk
      have df4 := df 4
      obtain ⟨w2, hw2⟩ : ∃ w2, w2 = wr.setCell ⟨mo, 4, none⟩ (.slice none 0 0) := ⟨_, rfl⟩
      have o2 : Only mo wr w2 := by rw [hw2]; exact Only.setCell wr ⟨mo, 4, none⟩ _
      have hb2 : w2.heap[mo]? = some (.cells #[.int .i64 (n : Int), .int .i64 (sz : Int), .map (some tm), .map (some nm), .slice none 0 0] 63 (0, 0)) := by rw [hw2]; exact heap_setCell_same wr mo 4 _ _ _ hblk
      have hm2 := HX.out.map.keep (o2.block tm (Ne.symm HH.out.nod.1))
      have HC := Lib.hid (mclone_any hm2)
      have f2 := (mo_cells hb2).2.2.1
      have H2 := Lib.hid (And.intro o2 (And.intro hb2 (show w2.heap.size = wr.heap.size from o2.size)))
      have HXX := Lib.hid HX.out
      clear hm2 o2 hb2 d0 d1 d2 d3 df hblk HX
      go_upto_region 5 with (fail)
      go_upto_region 6 with (fail)
      rw [← hw2]
      clear hw2 df4 d4
      go_wp2_with fail
      refine HC.out.mono ?_
      rintro e w3 ⟨rfl, hm3, b3, s3⟩
      have hb3 := (b3.block mo (lt_of_block H2.out.2.1)).trans H2.out.2.1
      have f3 := (mo_cells hb3).2.2.2.2.2 3
      have f3' := (mo_cells hb3).2.2.2.1
      have HR : Hid (SetPost w mo n sz (app T (L.take i)) bl dl cb (w3.setCell ⟨mo, 3, none⟩ (.map (some w2.heap.size)))) := by
        have o4 := Only.setCell w3 ⟨mo, 3, none⟩ (.map (some w2.heap.size))
        have hmol := lt_of_block H2.out.2.1
        have h := HXX.out.done HH.out HK.out.1 (cm := w2.heap.size) (wz := w3.setCell ⟨mo, 3, none⟩ (.map (some w2.heap.size))) H2.out.2.2
          (hm3.keep (o4.block _ (by show w2.heap.size ≠ mo; omega))) (heap_setCell_same w3 mo 3 _ _ _ hb3)
          (by
            have ta : Tn [mo] wr w2 [mo] := ⟨H2.out.1.os, H2.out.1.tape, H2.out.1.output, by rw [H2.out.2.2]; exact Nat.le_refl _, fun z _ hz => H2.out.1.block z (by simpa using hz), fun _ hz => .inl hz⟩
            exact (ta.trans (Tn.below b3)).trans (Tn.setCell w3 ⟨mo, 3, none⟩ _ (by simp)))
        exact ⟨_, ⟨_, _, _, _, _, _, _, _, h.1⟩, h.2⟩
      clear hm3 b3 s3 hb3 HC HXX H2 f2
      go_wp2_with fail
      go_end0
      exact ⟨rfl, HR.out⟩
set_option maxHeartbeats 1000000 in
theorem flush_any {w : World} {mo n sz : Nat} {T : Nat → Bs} {L : List (Nat × Bs)} {bl dl : List Nat} {cb : Nat} (h : MoAt w mo n sz T L bl dl cb) :
    Calls Tryd.prog 8 #[.pointer (some ⟨mo, 0, none⟩)] w fun e w' => e = .returned (.tuple #[]) ∧ SetPost w mo n sz (app T L) bl dl cb w' := by
  have HS := settle_any h L.length (Nat.le_refl _)
  rw [List.take_length] at HS
  replace HS := Lib.hid HS
  obtain ⟨tm, nm, mT, mN, bT, bN, v, E, h⟩ := h
  obtain ⟨av, cv, rfl, _, _, _⟩ := wrow_slice h.row
  have hEL : E.length = L.length := by rw [← h.lay]; simp
  have q4 := (mo_cells h.blk).2.2.2.2.1
  rw [hEL] at q4
  obtain ⟨N, hN⟩ : ∃ N, N = L.length := ⟨_, rfl⟩
  rw [← hN] at q4 HS
  clear h hEL hN
  go_enter Tryd.func8, Tryd.ntmps8
  go_wp2_with fail
  refine HS.out.mono ?_
  rintro e w' ⟨rfl, h1⟩
  have HR := Lib.hid h1
  clear h1 HS q4
  go_wp2_with fail
  go_end0
  exact ⟨rfl, HR.out⟩
end Go.Proofs.YtbngkmlipmhgdaaDoor.Mo
