/- A model made anew; an entry that waits. By the verifier of shale. -/
import Derived.Test.YtbngkmlipmhgdaaDoorMoAll
import Derived.Deep.RegionLaw
import Derived.StillTailTactics
namespace Go.Proofs.YtbngkmlipmhgdaaDoor.Mo
open Go Go.RowKit Bin
set_option linter.unusedVariables false
set_option linter.unusedSimpArgs false
theorem new_at (w : World) (n sz : Nat) (hn : 1 ≤ n) (hn2 : n ≤ 1048576) (hs : 1 ≤ sz) (hs2 : sz ≤ 1024) :
    MoAt (((w.alloc (.map #[] 0)).alloc (.map #[] 0)).alloc (.cells #[.int .i64 (n : Int), .int .i64 (sz : Int), .map (some w.heap.size), .map (some (w.heap.size + 1)), .slice none 0 0] 63 (0, 0))) (w.heap.size + 2) n sz (fun _ => zerosL sz) [] [w.heap.size + 2, w.heap.size, w.heap.size + 1] [] 0 ∧
      Below w.heap.size w (((w.alloc (.map #[] 0)).alloc (.map #[] 0)).alloc (.cells #[.int .i64 (n : Int), .int .i64 (sz : Int), .map (some w.heap.size), .map (some (w.heap.size + 1)), .slice none 0 0] 63 (0, 0))) := by
  have b : Below w.heap.size w (((w.alloc (.map #[] 0)).alloc (.map #[] 0)).alloc (.cells #[.int .i64 (n : Int), .int .i64 (sz : Int), .map (some w.heap.size), .map (some (w.heap.size + 1)), .slice none 0 0] 63 (0, 0))) := (((Below.refl _ _).alloc (Nat.le_refl _) _).alloc (by simp) _).alloc (by simp; omega) _
  refine ⟨⟨w.heap.size, w.heap.size + 1, fun _ => none, fun _ => none, 0, 0, .slice none 0 0, [], ?_⟩, b⟩
  have h1 : (w.alloc (.map #[] 0)).heap[w.heap.size]? = some (.map #[] 0) := heap_alloc_new w _
  have h2 : ((w.alloc (.map #[] 0)).alloc (.map #[] 0)).heap[w.heap.size + 1]? = some (.map #[] 0) := by
    have := heap_alloc_new (w.alloc (.map #[] 0)) (.map #[] 0)
    rwa [World.size_alloc] at this
  have h1' := (Below.heap_alloc (w.alloc (.map #[] 0)) (.map #[] 0) _ (lt_of_block h1)).trans h1
  exact {
    blk := by
      have := heap_alloc_new ((w.alloc (.map #[] 0)).alloc (.map #[] 0)) (.cells #[.int .i64 (n : Int), .int .i64 (sz : Int), .map (some w.heap.size), .map (some (w.heap.size + 1)), .slice none 0 0] 63 (0, 0))
      rwa [World.size_alloc, World.size_alloc] at this
    mapT := MapS.fresh ((Below.heap_alloc _ _ _ (lt_of_block h1')).trans h1')
    mapN := MapS.fresh ((Below.heap_alloc _ _ _ (lt_of_block h2)).trans h2)
    row := World.ownsRow_nil _ _ _ _
    bls := rfl
    nod := ⟨by omega, by omega, by omega, by simp [Value.ownBlock], by simp [Value.ownBlock], by simp [Value.ownBlock]⟩
    dis := fun k hk => (nomatch hk)
    dlt := fun k hk => (nomatch hk)
    inT := fun k s hs => (nomatch hs)
    inN := fun k s hs => (nomatch hs)
    inE := fun e he => (nomatch he)
    holT := fun k hk => .inl ⟨rfl, rfl⟩
    holN := fun k hk => .inl ⟨rfl, rfl⟩
    lay := rfl
    ents := fun e he => (nomatch he)
    lens := fun k => by simp [zerosL]
    num := ⟨hn, hn2, hs, hs2⟩
    cnt := ⟨by simp, by simp, by omega⟩ }
set_option maxHeartbeats 1000000 in
theorem new_yes (n sz : Nat) (hn : 1 ≤ n) (hn2 : n ≤ 1048576) (hs : 1 ≤ sz) (hs2 : sz ≤ 1024) (w : World) :
    Calls Tryd.prog 6 #[.int .i64 (n : Int), .int .i64 (sz : Int)] w fun e w' => ∃ mo bl, e = .returned (.tuple #[.pointer (some ⟨mo, 0, none⟩), .nilIface]) ∧ MoAt w' mo n sz (fun _ => zerosL sz) [] bl [] 0 ∧ Below w.heap.size w w' ∧ ∀ k ∈ bl, w.heap.size ≤ k := by
  have t1 : decide ((n : Int) < 1) = false := decide_eq_false (by omega)
  have t2 : decide ((1048576 : Int) < (n : Int)) = false := decide_eq_false (by omega)
  have t3 : decide ((sz : Int) < 1) = false := decide_eq_false (by omega)
  have t4 : decide ((1024 : Int) < (sz : Int)) = false := decide_eq_false (by omega)
  have HN := Lib.hid (new_at w n sz hn hn2 hs hs2)
  have hmk : ∀ W : World, (Instr.makeMap 60 none).run Tryd.prog W = .ok (.map (some W.heap.size)) (W.alloc (.map #[] 0)) := fun W => run_makeMap _ _
  clear hn hn2 hs hs2
  go_enter Tryd.func6, Tryd.ntmps6
  go_wp2_with fail
  go_ret2
  refine ⟨w.heap.size + 2, _, rfl, HN.out.1, HN.out.2, fun k hk => ?_⟩
  simp only [List.mem_cons, List.not_mem_nil, or_false] at hk
  omega
/-- behind an entry's wait. -/
theorem MoIn.wrote {w wa w9 w12 : World} {mo n sz : Nat} {T : Nat → Bs} {L : List (Nat × Bs)} {bl dl : List Nat} {cb tm nm : Nat} {mT mN : Int → Option Sd} {bT bN : Nat} {v : Value} {E : List We} {e : We} {g gd cap : Nat}
    (h : MoIn w mo n sz T L bl dl cb tm nm mT mN bT bN v E) (hE : Dat w e.d e.l) (hkey : e.key < n) (hlen : e.l.length = sz) (hq : ∃ o, e.d.q = some (gd, o)) (hgl : gd < w.heap.size) (hgb : gd ∉ bl) (hc : cb + 1 ≤ 1000)
    (ba : Below w.heap.size w wa) (hown : w9.ownsRow 0 67 2 (.slice (some ⟨g, 0, none⟩) (E.length + 1) cap) (E.length + 1) (wcells E ++ e.cells)) (hg : wa.grownBy w9 v.ownBlock) (ho : v.ownBlock = some g ∨ g = wa.heap.size)
    (hm : MapS w12 nm (upM mN (e.key : Int) e.d) (bN + 1)) (ht : Turned (w9.setCell ⟨mo, 4, none⟩ (.slice (some ⟨g, 0, none⟩) (E.length + 1) cap)) w12 nm) :
    MoIn w12 mo n sz T (L ++ [(e.key, e.l)]) (mo :: tm :: nm :: [g]) (gd :: dl) (cb + 1) tm nm mT (upM mN (e.key : Int) e.d) bT (bN + 1) (.slice (some ⟨g, 0, none⟩) (E.length + 1) cap) (E ++ [e]) ∧ Tn bl w w12 (mo :: tm :: nm :: [g]) := by
  obtain ⟨n1, n2, n3, n4, n5, n6⟩ := h.nod
  have o2 := Only.setCell w9 ⟨mo, 4, none⟩ (.slice (some ⟨g, 0, none⟩) (E.length + 1) cap)
  obtain ⟨t1, t2, t3, t4, t5⟩ := ht
  have hml := lt_of_block h.blk
  have hnl := h.mapN.lt
  have htl := h.mapT.lt
  have old9 : ∀ k, k < w.heap.size → v.ownBlock ≠ some k → w9.heap[k]? = w.heap[k]? := fun k hk hv => (hg.block k (Nat.lt_of_lt_of_le hk ba.size) (Ne.symm hv)).trans (ba.block k hk)
  have old : ∀ k, k < w.heap.size → k ≠ mo → k ≠ nm → v.ownBlock ≠ some k → w12.heap[k]? = w.heap[k]? := fun k hk h1 h2 hv => (t5 k h2).trans ((o2.block k h1).trans (old9 k hk hv))
  have s9 : w.heap.size ≤ w9.heap.size := Nat.le_trans ba.size hg.size
  have s12 : w9.heap.size = w12.heap.size := by rw [t4, o2.size]
  have nob : ∀ k, k ∉ bl → k ≠ mo ∧ k ≠ tm ∧ k ≠ nm ∧ v.ownBlock ≠ some k := fun k hk => by
    rw [h.bls] at hk
    simp only [List.mem_cons, not_or, Option.mem_toList] at hk
    exact ⟨hk.1, hk.2.1, hk.2.2.1, hk.2.2.2⟩
  have gne : g ≠ mo ∧ g ≠ tm ∧ g ≠ nm := by
    rcases ho with h1 | h1
    · exact ⟨fun e => n4 (by rw [h1, e]), fun e => n5 (by rw [h1, e]), fun e => n6 (by rw [h1, e])⟩
    · have := ba.size
      exact ⟨by omega, by omega, by omega⟩
  have dne : ∀ k, k < w.heap.size → k ∉ bl → k ≠ g := fun k hk hb e => by
    rcases ho with h1 | h1
    · exact (nob k hb).2.2.2 (by rw [h1, e])
    · have := ba.size; omega
  have od : ∀ k ∈ dl, w12.heap[k]? = w.heap[k]? := fun k hk => by
    obtain ⟨a1, _, a3, a4⟩ := nob k (h.dis k hk)
    exact old k (h.dlt k hk) a1 a3 a4
  have og : w12.heap[gd]? = w.heap[gd]? := by
    obtain ⟨a1, _, a3, a4⟩ := nob gd hgb
    exact old gd hgl a1 a3 a4
  have hs : w.heap.size ≤ w12.heap.size := by omega
  obtain ⟨qo, hq⟩ := hq
  have hE12 : Dat w12 e.d e.l := hE.same hs fun p hp => by rw [hq] at hp; cases hp; exact og
  have sub : ∀ {m}, MIn dl m → MIn (gd :: dl) m := fun hm k s hs p hp => List.mem_cons_of_mem _ (hm k s hs p hp)
  have tnn : Tn bl w w12 (mo :: tm :: nm :: [g]) := by
    refine ⟨t1.trans (o2.os.trans (hg.os.trans ba.os)), t2.trans (o2.tape.trans (hg.tape.trans ba.tape)), t3.trans (o2.output.trans (hg.output.trans ba.output)), hs, fun k hk hn => ?_, fun k hk => ?_⟩
    · obtain ⟨a1, _, a3, a4⟩ := nob k hn
      exact old k hk a1 a3 a4
    · rw [h.bls]
      simp only [List.mem_cons, List.not_mem_nil, or_false] at hk
      rcases hk with rfl | rfl | rfl | rfl
      · exact .inl (by simp)
      · exact .inl (by simp)
      · exact .inl (by simp)
      · rcases ho with h1 | h1
        · exact .inl (by rw [h1]; simp)
        · exact .inr (by rw [h1]; exact ba.size)
  refine ⟨?_, tnn⟩
  exact {
    blk := by
      rw [t5 mo n2]
      exact heap_setCell_same w9 mo 4 _ _ _ ((old9 mo hml n4).trans h.blk)
    mapT := h.mapT.keep (old tm htl (Ne.symm n1) n3 n5)
    mapN := hm
    row := by
      have h1 : WRow w9 (.slice (some ⟨g, 0, none⟩) (E.length + 1) cap) (E ++ [e]) := by
        show w9.ownsRow _ _ _ _ _ _
        rw [List.length_append, wcells_append]
        have : wcells [e] = e.cells := by show e.cells ++ [] = _; rw [List.append_nil]
        rw [this]
        exact hown
      refine wrow_keep h1 fun k hk => ?_
      cases hk
      exact (t5 g gne.2.2).trans (o2.block g gne.1)
    bls := rfl
    nod := ⟨n1, n2, n3, (by show some g ≠ some mo; exact fun e => gne.1 (Option.some.inj e)), (by show some g ≠ some tm; exact fun e => gne.2.1 (Option.some.inj e)), (by show some g ≠ some nm; exact fun e => gne.2.2 (Option.some.inj e))⟩
    dis := fun k hk => by
      have hx : k < w.heap.size ∧ k ∉ bl := by
        rcases List.mem_cons.1 hk with rfl | hk
        · exact ⟨hgl, hgb⟩
        · exact ⟨h.dlt k hk, h.dis k hk⟩
      obtain ⟨a1, a2, a3, _⟩ := nob k hx.2
      have a5 := dne k hx.1 hx.2
      simp only [List.mem_cons, List.not_mem_nil, or_false, not_or]
      exact ⟨a1, a2, a3, a5⟩
    dlt := fun k hk => by
      rcases List.mem_cons.1 hk with rfl | hk
      · omega
      · have := h.dlt k hk; omega
    inT := sub h.inT
    inN := fun k s hs => by
      unfold upM at hs
      split at hs
      · cases hs
        exact fun p hp => by rw [hq] at hp; cases hp; exact List.mem_cons_self ..
      · exact sub h.inN k s hs
    inE := fun d hd => by
      rcases List.mem_append.1 hd with hd | hd
      · exact fun p hp => List.mem_cons_of_mem _ (h.inE d hd p hp)
      · rw [List.mem_singleton.1 hd]
        exact fun p hp => by rw [hq] at hp; cases hp; exact List.mem_cons_self ..
    holT := h.holT.same h.inT hs od
    holN := by
      rw [app_snoc]
      exact (h.holN.same h.inN hs od).up e.key e.d e.l hE12
    lay := by rw [List.map_append, h.lay]; rfl
    ents := fun d hd => by
      rcases List.mem_append.1 hd with hd | hd
      · exact ⟨(h.ents d hd).1.same hs fun p hp => od _ (h.inE d hd p hp), (h.ents d hd).2⟩
      · rw [List.mem_singleton.1 hd]
        exact ⟨hE12, hkey, hlen⟩
    lens := h.lens
    num := h.num
    cnt := by
      have := h.cnt
      rw [List.length_append]
      refine ⟨?_, by omega, hc⟩
      show bT + (L.length + 1) ≤ cb + 1
      omega }
end Go.Proofs.YtbngkmlipmhgdaaDoor.Mo
