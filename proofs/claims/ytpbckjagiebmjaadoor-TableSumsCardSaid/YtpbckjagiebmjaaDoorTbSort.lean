/- A row of slots, sorted by the library. By the verifier of shale. -/
import Derived.Test.YtpbckjagiebmjaaDoorTbColl
import Derived.Test.YtpbckjagiebmjaaDoorSortFn
import Derived.Sort.OwnSortedInts
namespace Go.Proofs.YtpbckjagiebmjaaDoor.Tb
open Go Go.RowKit Go.Sort Go.Shelf Go.Lib
set_option linter.unusedVariables false
set_option linter.unusedSimpArgs false
instance : Inhabited Sl := ⟨zSl⟩
theorem scells_get : ∀ (L : List Sl) (i c : Nat), i < L.length → c < 9 → (scells L)[i * 9 + c]? = (slC (L[i]!))[c]?
  | [], i, c, hi, _ => absurd hi (by simp)
  | s :: L, 0, c, _, hc => by
    unfold scells
    rw [List.flatMap_cons, Nat.zero_mul, Nat.zero_add, List.getElem?_append_left (by simpa using hc)]
    rfl
  | s :: L, i + 1, c, hi, hc => by
    have ih := scells_get L i c (by simpa using hi) hc
    unfold scells at ih ⊢
    rw [List.flatMap_cons, List.getElem?_append_right (by simp; omega)]
    rw [show (i + 1) * 9 + c - (slC s).length = i * 9 + c by simp; omega, ih]
    simp
theorem flat_eq (L : List Sl) : flatK slC 9 L.toArray = (scells L).toArray := by
  apply Array.ext
  · rw [size_flatK]; simp [scells_len]
  · intro t h1 h2
    rw [size_flatK] at h1
    have h1' : t < L.length * 9 := by simpa using h1
    have hg := get_flatK slC 9 L.toArray t h1
    have e := scells_get L (t / 9) (t % 9) (by omega) (by omega)
    rw [show t / 9 * 9 + t % 9 = t by omega] at e
    have h3 : (scells L)[t]? = some ((scells L)[t]'(by simpa using h2)) := List.getElem?_eq_getElem _
    rw [h3] at e
    have hc9 : t % 9 < (slC L[t / 9]!).length := by simp; omega
    rw [List.getElem?_eq_getElem hc9] at e
    have e2 := Option.some.inj e
    rw [getElem!_pos _ t (by rw [size_flatK]; exact h1)] at hg
    rw [hg, List.getElem_toArray, e2]
    rw [show (L.toArray)[t / 9]! = L[t / 9]! by simp]
    rw [getElem!_pos _ (t % 9) hc9]
theorem heap_sortedF {w : World} {g n : Nat} {os : Array Obj} {cur : Array Value} {e : TypeId} {fr : Nat × Nat} (d : Array Value) (hb : w.heap[g]? = some (.cells cur e fr)) :
    (grow (putRow id (Sort.ahead w n) g 0 d) os).heap[g]? = some (.cells (putCells id 0 d cur) e fr) := by
  have hg : g < w.heap.size := (Array.getElem?_eq_some_iff.1 hb).1
  rw [heap_grow_old _ _ (by simpa using hg)]
  simp [putRow, mapBlock, Sort.ahead, Array.getElem?_modify, hb, onCells]
theorem grownBy_sortedF {w : World} {g n : Nat} {os : Array Obj} (d : Array Value) : w.grownBy (grow (putRow id (Sort.ahead w n) g 0 d) os) (some g) := by
  refine ⟨rfl, rfl, rfl, by simp, fun k hk hne => ?_⟩
  rw [heap_grow_old _ _ (by simpa using hk)]
  have : g ≠ k := fun e => hne (by rw [e])
  simp [putRow, mapBlock, Sort.ahead, Array.getElem?_modify, this]
theorem take_putCellsF (cur : Array Value) (ts : List Value) (h : ts.length ≤ cur.size) : (putCells id 0 ts.toArray cur).toList.take ts.length = ts := by
  apply List.ext_getElem?
  intro j
  by_cases hj : j < ts.length
  · rw [List.getElem?_take_of_lt hj, Array.getElem?_toList]
    simp [putCells, hj, show j < cur.size by omega]
  · rw [List.getElem?_take_eq_none (by omega), List.getElem?_eq_none (by omega)]
theorem holds_of_blockF {w : World} {g : Nat} {cur : Array Value} {e : TypeId} {ss : List Value} (hb : w.heap[g]? = some (.cells cur e (0, 0))) (ht : cur.toList.take ss.length = ss) : Holds id w g 0 ss.toArray := by
  intro j hj
  have hj' : j < ss.length := by simpa using hj
  refine ⟨?_, by simp [World.frozen?, hb]⟩
  have h1 : (cur.toList.take ss.length)[j]? = ss[j]? := by rw [ht]
  rw [List.getElem?_take_of_lt hj'] at h1
  simp only [World.cell?, hb, Nat.zero_add]
  simp only [Option.isSome_none, Bool.false_eq_true, if_false]
  rw [← Array.getElem?_toList, h1]
  simp [hj']
theorem ltI (f : Sl → Int) (x y : Sl) : ltOf (fun x y : Sl => cmpI (f x) (f y)) x y = decide (f x < f y) := by
  unfold ltOf cmpI
  by_cases h1 : f x < f y
  · simp [h1]
  · by_cases h2 : f y < f x <;> simp [h1, h2]
theorem swoI (f : Sl → Int) : SWO (ltOf fun x y : Sl => cmpI (f x) (f y)) where
  irrefl x := by rw [ltI]; simp
  trans x y z h1 h2 := by rw [ltI] at *; simp at *; omega
  ntrans x y z h1 h2 := by rw [ltI] at *; simp at *; omega
theorem perm_of {a b : Array Sl} {n : Nat} (hn : n = a.size) (h : PermIn 0 n a b) : b.toList.Perm a.toList := by
  obtain ⟨h1, _, h3⟩ := h
  rw [hn] at h3
  rw [Array.extract_eq_self_of_le (by omega), Array.extract_eq_self_of_le (Nat.le_refl _)] at h3
  exact h3
theorem pair_of {f : Sl → Int} {b : Array Sl} {n : Nat} (hn : b.size = n) (h : SortedIn (ltOf fun x y : Sl => cmpI (f x) (f y)) 0 n b) : b.toList.Pairwise (fun x y => f x ≤ f y) := by
  rw [List.pairwise_iff_getElem]
  intro i j hi hj hij
  have h1 := h i j (Nat.zero_le _) hij (by simpa [hn] using hj)
  rw [ltI] at h1
  have hi' : i < b.size := by simpa using hi
  have hj' : j < b.size := by simpa using hj
  rw [getElem!_pos b i hi', getElem!_pos b j hj'] at h1
  have h2 : ¬ f b[j] < f b[i] := of_decide_eq_false h1
  show f b.toList[i] ≤ f b.toList[j]
  rw [Array.getElem_toList, Array.getElem_toList]
  omega
theorem aggS (w : World) : (isAgg 47).run Tryd.prog w = .ok true w := by kernel_rfl
theorem sizeS (w : World) : (Go.sizeOf 47).run Tryd.prog w = .ok 9 w := by kernel_rfl
theorem enterK (args : Array Value) (w : World) : (callFunc 34 args).run Tryd.prog w = .ok (.enter 34 args) w := enters_of Tryd.func34 (by kernel_rfl) rfl args w
theorem enterP (args : Array Value) (w : World) : (callFunc 32 args).run Tryd.prog w = .ok (.enter 32 args) w := enters_of Tryd.func32 (by kernel_rfl) rfl args w
theorem laysK (blk off size : Nat) (w : World) : CmpLays Tryd.prog 34 #[] slC 9 (fun x y => cmpI x.k y.k) blk off size w := fun _ _ _ _ x y => byKey_any x y _
theorem laysP (blk off size : Nat) (w : World) : CmpLays Tryd.prog 32 #[] slC 9 (fun x y => cmpI x.p y.p) blk off size w := fun _ _ _ _ x y => byPage_any x y _
theorem sort_g {g : Nat} {f : Sl → Int} (eg : ∀ args w, (callFunc g args).run Tryd.prog w = .ok (.enter g args) w) (hl : ∀ blk off size w, CmpLays Tryd.prog g #[] slC 9 (fun x y => cmpI (f x) (f y)) blk off size w)
    (Bs : Nat) (wr : World) (v : Value) (L : List Sl) (h : wr.ownsRow Bs 47 9 v L.length (scells L)) (h1000 : L.length ≤ 1000) :
    Calls Tryd.prog 43 #[v, .func (.func g) #[] #[]] wr (SortP Bs v L f wr) := by
  rcases h.2 with ⟨rfl, h0⟩ | ⟨bb, cap, cur, rfl, hbase, hb, h2, h3, h4, h5⟩
  · obtain rfl : L = [] := List.length_eq_zero_iff.1 h0
    have hcon := AnyF.slices_SortFunc_none Tryd.sortFn none 0 (.func (.func g) #[] #[]) wr
    refine hcon.mono ?_
    rintro e w' ⟨rfl, rfl⟩
    exact ⟨rfl, [], List.Perm.refl _, List.Pairwise.nil, h, ⟨rfl, rfl, rfl, Nat.le_refl _, fun _ _ _ => rfl⟩⟩
  · have hH : HoldsK slC 9 wr bb 0 L.toArray := by
      unfold HoldsK
      rw [flat_eq]
      exact holds_of_blockF hb (by rw [scells_len]; exact h5)
    have hcon := AnyQ.slices_SortFunc Tryd.sortFn 9 aggS sizeS slC (fun _ => rfl) (fun x v hv => by simp only [List.mem_cons, List.not_mem_nil, or_false] at hv; rcases hv with rfl | rfl | rfl | rfl | rfl | rfl | rfl | rfl | rfl <;> rfl) (fun x y => cmpI (f x) (f y)) (swoI f) g #[] bb 0 cap L.toArray wr eg (hl bb 0 _ wr) hH (lt_of_block hb) (by simp; omega)
    rw [show L.toArray.size = L.length by simp] at hcon
    refine hcon.mono ?_
    rintro e w' ⟨rfl, d', n, os, hp, hs, rfl⟩
    have hds : d'.size = L.length := by have := hp.1; simpa using this
    have hd' : d'.toList.length = L.length := by simpa using hds
    refine ⟨rfl, d'.toList, by have := perm_of (by simp) hp; simpa using this, pair_of hds hs, ?_, ?_⟩
    · unfold sortWorldK putRowK
      rw [show d' = d'.toList.toArray by simp, flat_eq]
      rw [show (d'.toList.toArray).toList = d'.toList by simp]
      refine ⟨scells_len _, .inr ⟨bb, cap, _, by rw [hd'], hbase, heap_sortedF _ hb, by omega, h3, by simp [putCells, h4], ?_⟩⟩
      rw [← scells_len]
      exact take_putCellsF cur _ (by rw [scells_len, h4]; omega)
    · exact grownBy_sortedF _
end Go.Proofs.YtpbckjagiebmjaaDoor.Tb
