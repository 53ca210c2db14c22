/- Texts of the verifier of shale, laid into one: Bits, Base, Errs, CloneM, BinMath, Mem, Own8, Buf, Row, RefBytes, RefCopy, Args, RowMd. -/
import Derived.WalkKit
import Derived.IntWalk
import Derived.Test.YtbngkmlipmhgdaaDoorRows
import Derived.OneCell
import Derived.Deep.QuietTactic
import Derived.WalkSmall
import Derived.Lib.Hide
import Derived.LaidLaws
import Derived.LaidEql
import Derived.Stop.LaidErr
import Derived.Shelf.SlMaps.Clone
import Derived.Ground.SlmcProg
import Derived.Test.YtbngkmlipmhgdaaDoorProg
import Derived.Deep.AppendLies
import Derived.OpenShut
import Derived.Deep.Fields
import Derived.ChangeArms
import Derived.WideShapes
import Derived.ProofKit
import Derived.ChangeOld
import Derived.Deep.Slices
import Derived.ChangeSame
/- How the model's integers of 32 and 8 bits are BitVecs: small laws on 'bits', '/' and 'wrap'. By the verifier of shale. -/
namespace Go.Proofs.YtbngkmlipmhgdaaDoor.Bits32
open Go

/-- the number of 32 bits, behind a name that no tactic opens. -/
def u (a : BitVec 32) : Int := (a.toNat : Int)
/-- the number of 8 bits, likewise. -/
def b (c : BitVec 8) : Int := (c.toNat : Int)
theorem u_lo (a : BitVec 32) : 0 ≤ u a := by unfold u; omega
theorem u_hi (a : BitVec 32) : u a < 4294967296 := by unfold u; have := a.isLt; omega
theorem b_lo (c : BitVec 8) : 0 ≤ b c := by unfold b; omega
theorem b_hi (c : BitVec 8) : b c < 256 := by unfold b; have := c.isLt; omega
theorem ofInt32 (a : BitVec 32) : BitVec.ofInt 32 (u a) = a := by
  apply BitVec.eq_of_toNat_eq
  rw [BitVec.toNat_ofInt]
  unfold u
  have := a.isLt
  omega
theorem wrap32 (a : BitVec 32) : IntKind.u32.wrap (u a) = u a := by
  rw [IntKind.wrap_u32']
  have := u_lo a
  have := u_hi a
  omega
theorem xor (a c : BitVec 32) : bits .xor .u32 (u a) (u c) = u (a ^^^ c) := by
  show IntKind.u32.wrap (u (BitVec.ofInt 32 (u a) ^^^ BitVec.ofInt 32 (u c))) = _
  rw [ofInt32, ofInt32, wrap32]
theorem ofInt8 (a : BitVec 8) : BitVec.ofInt 8 (b a) = a := by
  apply BitVec.eq_of_toNat_eq
  rw [BitVec.toNat_ofInt]
  unfold b
  have := a.isLt
  omega
theorem wrap8 (a : BitVec 8) : IntKind.u8.wrap (b a) = b a := by
  rw [IntKind.wrap_u8']
  have := b_lo a
  have := b_hi a
  omega
theorem bxor (a c : BitVec 8) : bits .xor .u8 (b a) (b c) = b (a ^^^ c) := by
  show IntKind.u8.wrap (b (BitVec.ofInt 8 (b a) ^^^ BitVec.ofInt 8 (b c))) = _
  rw [ofInt8, ofInt8, wrap8]
theorem bit8 (k : Nat) : (2 : Int) ^ (k % 8) % 256 = b (BitVec.twoPow 8 (k % 8)) := by
  have : ∀ i : Fin 8, (2 : Int) ^ (i.val) % 256 = b (BitVec.twoPow 8 i) := by decide
  exact this ⟨k % 8, by omega⟩
theorem bxor_bit (c : BitVec 8) (k : Nat) : bits .xor .u8 (b c) ((2 : Int) ^ (k % 8) % 256) = b (c ^^^ BitVec.twoPow 8 (k % 8)) := by rw [bit8, bxor]
end Go.Proofs.YtbngkmlipmhgdaaDoor.Bits32
/- Small words on memory: a world in which one block alone may have changed; calls that only compute. By the verifier of shale. -/
namespace Go.Proofs.YtbngkmlipmhgdaaDoor
open Go Go.RowKit

/-- of all blocks that were there s alone may have changed; none is new. -/
structure Only (s : Nat) (w w' : World) : Prop where
  os : w'.os = w.os
  tape : w'.tape = w.tape
  output : w'.output = w.output
  size : w'.heap.size = w.heap.size
  block : ∀ k, k ≠ s → w'.heap[k]? = w.heap[k]?
theorem Only.refl (s : Nat) (w : World) : Only s w w := ⟨rfl, rfl, rfl, rfl, fun _ _ => rfl⟩
theorem Only.trans {s : Nat} {a b c : World} (h : Only s a b) (k : Only s b c) : Only s a c :=
  ⟨k.os.trans h.os, k.tape.trans h.tape, k.output.trans h.output, k.size.trans h.size, fun i hi => (k.block i hi).trans (h.block i hi)⟩
theorem Only.setCell (w : World) (p : Addr) (u : Value) : Only p.block w (w.setCell p u) :=
  ⟨rfl, rfl, rfl, by simp [World.setCell], fun k hk => Below.heap_setCell _ _ _ _ hk⟩
theorem Only.drew {s : Nat} {a w : World} (h : Only s a w) : Only s a w.drew := ⟨h.os, h.tape, h.output, h.size, h.block⟩
theorem Only.cell {s : Nat} {w w' : World} (h : Only s w w') {p : Addr} (hp : p.block ≠ s) : w'.cell? p = w.cell? p := World.cell?_of_block (w := w) (h.block p.block hp)
theorem Only.below {s : Nat} {w w' : World} (h : Only s w w') {B : Nat} (hs : B ≤ s) : Below B w w' :=
  ⟨h.os, h.tape, h.output, by rw [h.size]; exact Nat.le_refl _, fun k hk => h.block k (by omega)⟩

/-- an index brought into 0 .. n as the statements do. -/
theorem norm_at (x : Int) (n : Nat) (hn : n ≤ 1000000) :
    ∃ k : Nat, k ≤ n ∧ (wrap64 (wrap64 (x.tmod ((n : Int) + 1) + (n : Int)) + 1)).tmod ((n : Int) + 1) = (k : Int) := by
  have h1 : x.tmod ((n : Int) + 1) < (n : Int) + 1 := Int.tmod_lt_of_pos x (by omega)
  have h2 : -((n : Int) + 1) < x.tmod ((n : Int) + 1) := by
    have := Int.tmod_lt_of_pos (-x) (b := (n : Int) + 1) (by omega)
    rw [Int.neg_tmod] at this
    omega
  rw [show wrap64 (x.tmod ((n : Int) + 1) + (n : Int)) = x.tmod ((n : Int) + 1) + (n : Int) from IntWalk.wrap64_in _ (by omega)]
  rw [show wrap64 (x.tmod ((n : Int) + 1) + (n : Int) + 1) = x.tmod ((n : Int) + 1) + (n : Int) + 1 from IntWalk.wrap64_in _ (by omega)]
  have h3 := Int.tmod_lt_of_pos (x.tmod ((n : Int) + 1) + (n : Int) + 1) (b := (n : Int) + 1) (by omega)
  have h4 := Int.tmod_nonneg ((n : Int) + 1) (a := x.tmod ((n : Int) + 1) + (n : Int) + 1) (by omega)
  exact ⟨((x.tmod ((n : Int) + 1) + (n : Int) + 1).tmod ((n : Int) + 1)).toNat, by omega, by omega⟩

/-- of the blocks that were there s alone may have changed; others may be new. -/
structure Upd (s : Nat) (w w' : World) : Prop where
  os : w'.os = w.os
  tape : w'.tape = w.tape
  output : w'.output = w.output
  size : w.heap.size ≤ w'.heap.size
  block : ∀ k, k < w.heap.size → k ≠ s → w'.heap[k]? = w.heap[k]?
theorem Upd.refl (s : Nat) (w : World) : Upd s w w := ⟨rfl, rfl, rfl, Nat.le_refl _, fun _ _ _ => rfl⟩
theorem Upd.trans {s : Nat} {a b c : World} (h : Upd s a b) (k : Upd s b c) : Upd s a c :=
  ⟨k.os.trans h.os, k.tape.trans h.tape, k.output.trans h.output, Nat.le_trans h.size k.size, fun i hi hs => (k.block i (Nat.lt_of_lt_of_le hi h.size) hs).trans (h.block i hi hs)⟩
theorem Upd.only {s : Nat} {a b c : World} (h : Upd s a b) (k : Only s b c) : Upd s a c :=
  h.trans ⟨k.os, k.tape, k.output, by rw [k.size]; exact Nat.le_refl _, fun i _ hs => k.block i hs⟩
theorem Upd.below {s : Nat} {a b c : World} (h : Upd s a b) (k : Below b.heap.size b c) : Upd s a c :=
  h.trans ⟨k.os, k.tape, k.output, k.size, fun i hi _ => k.block i hi⟩
theorem Upd.drew {s : Nat} {a w : World} (h : Upd s a w) : Upd s a w.drew := ⟨h.os, h.tape, h.output, h.size, h.block⟩
theorem Upd.cell {s : Nat} {w w' : World} (h : Upd s w w') {p : Addr} (hb : p.block < w.heap.size) (hp : p.block ≠ s) : w'.cell? p = w.cell? p := World.cell?_of_block (w := w) (h.block p.block hb hp)
/-- the world but for draws. -/
def Drawn (w w' : World) : Prop := ∃ n, w' = w.drewN n
theorem Drawn.refl (w : World) : Drawn w w := ⟨0, rfl⟩
theorem Drawn.mk (w : World) (n : Nat) : Drawn w (w.drewN n) := ⟨n, rfl⟩
theorem Drawn.trans {a b c : World} (h : Drawn a b) (k : Drawn b c) : Drawn a c := by
  obtain ⟨n, rfl⟩ := h
  obtain ⟨m, rfl⟩ := k
  exact ⟨n + m, World.drewN_drewN _ _ _⟩
theorem Drawn.below {a b : World} (h : Drawn a b) (B : Nat) : Below B a b := by
  obtain ⟨n, rfl⟩ := h
  exact below_drewN (Below.refl _ _) n
theorem quiet_same {P : Program} {f : FuncId} {args : Array Value} {w : World} {n : Nat} {v : Value} (h : Calls P f args (w.drewN n) fun e w' => e = .returned v ∧ w.drewN n = w') :
    Calls P f args (w.drewN n) fun e w'' => e = .returned v ∧ ∃ m, w'' = w.drewN m :=
  h.mono fun _ _ ⟨he, hm⟩ => ⟨he, n, hm.symm⟩
end Go.Proofs.YtbngkmlipmhgdaaDoor
/- What the listed error variables give the walks: each holds an error of its own. By the verifier of shale. -/
namespace Go.Proofs.YtbngkmlipmhgdaaDoor
open Go Go.RowKit Go.ChangeShapes
set_option linter.unusedVariables false
/-- an error as errors.New makes it, read through. -/
def errD {H : Type} (text : List UInt8) : DataW H := .iface "*errors.errorString" (.ptr (.agg [.lit (.string text)]))
theorem nameStar : "*" ++ "errors.errorString" = "*errors.errorString" := by decide
theorem rowErr (u : TypeId) (h : Tryd.prog.typeName? 3 u = some "*errors.errorString") : u = 76 :=
  typeName_ptr_named (nm := "errors.errorString") (by rw [nameStar]; kernel_rfl) (by kernel_rfl) (by decide) u (by rw [nameStar]; exact h)
theorem cellsErr : Tryd.prog.cellsOf 93 = 1 := by kernel_rfl
theorem cellsStr : Tryd.prog.cellsOf 9 = 1 := by kernel_rfl
/-- an error variable's cell: the error itself, at address a. -/
def Sent (w : World) (g : Nat) (a : Addr) : Prop := w.cell? ⟨g, 0, none⟩ = some (.iface 76 (.pointer (some a)))
abbrev errOf (a : Addr) : Value := .iface 76 (.pointer (some a))
/-- .. and it leads to a row that nothing marks. -/
def ErrAt (w : World) (g : Nat) (a : Addr) : Prop := Sent w g a ∧ g < w.heap.size ∧ a.block < w.heap.size ∧ ∃ c t, w.heap[a.block]? = some (.cells c t (0, 0))
theorem Sent.below {B : Nat} {w w' : World} {g : Nat} {a : Addr} (h : Sent w g a) (b : Below B w w') (hg : g < B) : Sent w' g a := (b.cell (p := ⟨g, 0, none⟩) hg).trans h
theorem ErrAt.below {w w' : World} {g : Nat} {a : Addr} (h : ErrAt w g a) (b : Below w.heap.size w w') : ErrAt w' g a := by
  obtain ⟨h1, h2, h3, c, t, h4⟩ := h
  exact ⟨h1.below b h2, Nat.lt_of_lt_of_le h2 b.size, Nat.lt_of_lt_of_le h3 b.size, c, t, (b.block _ h3).trans h4⟩
theorem ErrAt.since {w w' : World} {g : Nat} {a : Addr} {B : Nat} (h : ErrAt w g a) (hB : w.heap.size ≤ B) (b : Below B w w') : ErrAt w' g a := h.below (b.mono hB)
/-- which entries of a list are errors. -/
def IsErr (L : List (String × DataW Unit)) (i g : Nat) : Prop := ∃ n text, L[i]? = some (n, errD text) ∧ Tryd.prog.globalNamed n = some g ∧ (Tryd.prog.globals[g]?).map (·.type) = some 26
set_option maxRecDepth 100000 in
theorem laid_errs {W : World} : ∀ (L : List (String × DataW Unit)) (ps : List MemPlace), DataW.LaidVars Tryd.prog W L ps →
    (∀ b off, MemPlace.cell b off ∈ ps → (∃ c t, W.heap[b]? = some (.cells c t (0, 0))) ∧ ∀ u v, W.cell? ⟨b, off, none⟩ = some (.iface u v) → Value.okWide Tryd.prog W .any 0 u v) → ps.Nodup →
    ∃ f : Nat → Addr, (∀ i g, IsErr L i g → ErrAt W g (f i) ∧ MemPlace.cell (f i).block (f i).off ∈ ps) ∧ (∀ i j g k, IsErr L i g → IsErr L j k → i ≠ j → f i ≠ f j)
  | [], ps, h, _, _ => ⟨fun _ => ⟨0, 0, none⟩, fun i g ⟨n, t, e, _⟩ => by simp at e, fun i j g k ⟨n, t, e, _⟩ => by simp at e⟩
  | (n, d) :: r, ps, h, hrows, hnd => by
    obtain ⟨g, t, cs, fuel, p, q, hg, ht, hv, hd, hq, rfl⟩ := h
    have hndq : q.Nodup := List.Nodup.sublist (List.sublist_append_right _ _) hnd
    obtain ⟨f, f1, f2⟩ := laid_errs r q hq (fun b off hm => hrows b off (List.mem_append_right _ hm)) hndq
    by_cases hc : ∃ k, IsErr ((n, d) :: r) 0 k
    · obtain ⟨k, n', text, he, hk, hkt⟩ := hc
      simp only [List.getElem?_cons_zero, Option.some.injEq, Prod.mk.injEq] at he
      obtain ⟨rfl, rfl⟩ := he
      obtain rfl := Option.some.inj (hk.symm.trans hg)
      obtain rfl := Option.some.inj (hkt.symm.trans ht)
      obtain ⟨l0⟩ := cs
      have ok0 : ∀ u v, l0 = [.iface u v] → Value.okWide Tryd.prog W .any 0 u v := fun u v e => by
        subst e
        exact (hrows k 0 (by simp [MemPlace.row])).2 u v (by simpa using World.var?_cell hg hv 0)
      obtain ⟨a0, s0, rfl, hc0, hs0, hz0, rfl⟩ := errorString_of_trod Tryd.underlying26 rowErr Tryd.underlying76 Tryd.underlying93 rfl rfl Tryd.underlying9 cellsErr cellsStr hd ok0
      have hcell : W.cell? ⟨k, 0, none⟩ = some (.iface 76 (.pointer (some a0))) := by simpa using World.var?_cell hg hv 0
      have hmem : MemPlace.cell a0.block a0.off ∈ MemPlace.row a0 1 := by simp [MemPlace.row]
      obtain ⟨c, t0, hrow⟩ := (hrows a0.block a0.off (List.mem_append_left _ (List.mem_append_right _ hmem))).1
      have hE : ErrAt W k a0 := ⟨hcell, World.block_lt_of_cell? W _ hcell, lt_of_block hrow, c, t0, hrow⟩
      have hdis : ∀ x, x ∈ MemPlace.row a0 1 → x ∉ q := fun x hx hxq => (List.nodup_append.1 hnd).2.2 x (List.mem_append_right _ hx) x hxq rfl
      refine ⟨fun i => if i = 0 then a0 else f (i - 1), ?_, ?_⟩
      · intro i g' hi
        cases i with
        | zero =>
          obtain ⟨n2, text2, he2, hk2, _⟩ := hi
          simp only [List.getElem?_cons_zero, Option.some.injEq, Prod.mk.injEq] at he2
          obtain ⟨rfl, _⟩ := he2
          obtain rfl := Option.some.inj (hk.symm.trans hk2)
          exact ⟨hE, List.mem_append_left _ (List.mem_append_right _ hmem)⟩
        | succ i =>
          have := f1 i g' hi
          exact ⟨this.1, List.mem_append_right _ this.2⟩
      · intro i j g' k' hi hj hij
        cases i with
        | zero =>
          cases j with
          | zero => exact absurd rfl hij
          | succ j =>
            have := (f1 j k' hj).2
            intro e
            have e : a0 = f j := by simpa using e
            rw [← e] at this
            exact hdis _ hmem this
        | succ i =>
          cases j with
          | zero =>
            have := (f1 i g' hi).2
            intro e
            have e : f i = a0 := by simpa using e
            rw [e] at this
            exact hdis _ hmem this
          | succ j => exact f2 i j g' k' hi hj (by omega)
    · refine ⟨fun i => f (i - 1), ?_, ?_⟩
      · intro i g' hi
        cases i with
        | zero => exact absurd ⟨g', hi⟩ hc
        | succ i =>
          have := f1 i g' hi
          exact ⟨this.1, List.mem_append_right _ this.2⟩
      · intro i j g' k' hi hj hij
        cases i with
        | zero => exact absurd ⟨g', hi⟩ hc
        | succ i =>
          cases j with
          | zero => exact absurd ⟨k', hj⟩ hc
          | succ j => exact f2 i j g' k' hi hj (by omega)
theorem laid_errs' {W : World} (L : List (String × DataW Unit)) (h : laidMet Tryd.prog L W) : ∃ f : Nat → Addr, (∀ i g, IsErr L i g → ErrAt W g (f i)) ∧ (∀ i j g k, IsErr L i g → IsErr L j k → i ≠ j → f i ≠ f j) := by
  obtain ⟨ps, h1, h2, h3⟩ := h
  obtain ⟨f, f1, f2⟩ := laid_errs L ps h1 h3 h2
  exact ⟨f, fun i g hi => (f1 i g hi).1, f2⟩
/-- an error is itself. -/
theorem compErr : (Tryd.prog.info? 76).map (·.comparable) = some true := by kernel_rfl
theorem sizeErr : (Tryd.prog.info? 93).map (·.size) = some 1 := by kernel_rfl
set_option maxRecDepth 100000 in
theorem eql_err (a : Addr) (w : World) : (binOp .eql 26 (errOf a) (errOf a)).run Tryd.prog w = .ok (.bool true) w := by
  obtain ⟨i, hi, hc⟩ := Option.map_eq_some_iff.1 compErr
  obtain ⟨j, hj, _⟩ := Option.map_eq_some_iff.1 sizeErr
  exact run_eql_iface_ptr_same w a Tryd.underlying26 Tryd.underlying76 hi hc hj
end Go.Proofs.YtbngkmlipmhgdaaDoor
/- The library's copy of a map, at this program's numbers. By the verifier of shale, with the shelf's own commands. -/
namespace Go.Proofs
open Go.Shelf
def Tryd.cloneM_ren : Go.Shelf.Ren := ⟨fun | 5 => 30 | 7 => 33 | n => n, fun | 23 => 60 | 25 => 3 | 3 => 31 | 4 => 4 | 20 => 20 | n => n, fun | n => n⟩
theorem Tryd.cloneM : Go.Proofs.SlLaysW.n5 Tryd.prog Tryd.cloneM_ren := {
  mixed := by kernel_rfl
  f5 := ⟨Tryd.f30.name, by decide, Tryd.func30.trans (congrArg some (by kernel_rfl))⟩
  f7 := Tryd.func33.trans (congrArg some (by kernel_rfl))
  t4 := Tryd.underlying4
  a4 := Tryd.isAgg4
  z4 := Tryd.sizeOf4
  v4 := Tryd.zeroValue4
  t20 := Tryd.underlying20
  a20 := Tryd.isAgg20
  z20 := Tryd.sizeOf20
  v20 := Tryd.zeroValue20
  t23 := Tryd.underlying60
  a23 := Tryd.isAgg60
  z23 := Tryd.sizeOf60
  v23 := Tryd.zeroValue60 }
end Go.Proofs
/- Polynomials over two elements as numbers: bit i is the coefficient of x^i. No program is named here. By the verifier of shale. -/
namespace Go.Proofs.YtbngkmlipmhgdaaDoor.Bin
set_option linter.unusedVariables false
/-- the product. -/
def pm (a b : Nat) : Nat := if h : b = 0 then 0 else (if b % 2 = 1 then a else 0) ^^^ (2 * pm a (b / 2))
termination_by b
decreasing_by omega
theorem dbl_xor (a b : Nat) : 2 * (a ^^^ b) = 2 * a ^^^ 2 * b := by
  apply Nat.eq_of_testBit_eq
  intro i
  rw [Nat.testBit_xor]
  cases i with
  | zero => simp [Nat.testBit_zero]
  | succ i => simp [Nat.testBit_succ]
theorem half_xor (a b : Nat) : (a ^^^ b) / 2 = a / 2 ^^^ b / 2 := by
  apply Nat.eq_of_testBit_eq
  intro i
  rw [Nat.testBit_xor, Nat.testBit_div_two, Nat.testBit_div_two, Nat.testBit_div_two, Nat.testBit_xor]
theorem mod_xor (a b : Nat) : (a ^^^ b) % 2 = (a % 2 + b % 2) % 2 := by
  have h := Nat.testBit_xor (x := a) (y := b) (i := 0)
  rw [Nat.testBit_zero, Nat.testBit_zero, Nat.testBit_zero] at h
  rcases Nat.mod_two_eq_zero_or_one a with h1 | h1 <;> rcases Nat.mod_two_eq_zero_or_one b with h2 | h2 <;> rcases Nat.mod_two_eq_zero_or_one (a ^^^ b) with h3 | h3 <;> simp [h1, h2, h3] at h ⊢
theorem pm_zero (a : Nat) : pm a 0 = 0 := by rw [pm]; simp
theorem pm_step (a b : Nat) : pm a b = (if b % 2 = 1 then a else 0) ^^^ (2 * pm a (b / 2)) := by
  by_cases h : b = 0
  · subst h; rw [Nat.zero_div, pm_zero]; simp
  · rw [pm, dif_neg h]
theorem xx (a b c d : Nat) : (a ^^^ b) ^^^ (c ^^^ d) = (a ^^^ c) ^^^ (b ^^^ d) := by
  rw [Nat.xor_assoc, ← Nat.xor_assoc b, Nat.xor_comm b c, Nat.xor_assoc c, ← Nat.xor_assoc a]
theorem zero_pm : ∀ b, pm 0 b = 0 := by
  intro b
  induction b using Nat.strongRecOn with
  | ind b ih =>
    by_cases h : b = 0
    · subst h; exact pm_zero 0
    · rw [pm_step, ih (b / 2) (by omega)]; simp
theorem pm_xor_left (a c : Nat) : ∀ b, pm (a ^^^ c) b = pm a b ^^^ pm c b := by
  intro b
  induction b using Nat.strongRecOn with
  | ind b ih =>
    by_cases h : b = 0
    · subst h; rw [pm_zero, pm_zero, pm_zero]; rfl
    · rw [pm_step (a ^^^ c), pm_step a, pm_step c, ih (b / 2) (by omega), dbl_xor, xx]
      congr 1
      split <;> simp
theorem pm_xor_right (a : Nat) : ∀ b c, pm a (b ^^^ c) = pm a b ^^^ pm a c := by
  intro b
  induction b using Nat.strongRecOn with
  | ind b ih =>
    intro c
    by_cases h : b = 0
    · subst h; rw [Nat.zero_xor, pm_zero, Nat.zero_xor]
    · rw [pm_step a (b ^^^ c), pm_step a b, pm_step a c, half_xor, ih (b / 2) (by omega), dbl_xor, xx, mod_xor]
      congr 1
      rcases Nat.mod_two_eq_zero_or_one b with h1 | h1 <;> rcases Nat.mod_two_eq_zero_or_one c with h2 | h2 <;> simp [h1, h2]
theorem pm_dbl_right (a b : Nat) : pm a (2 * b) = 2 * pm a b := by
  rw [pm_step, show 2 * b / 2 = b by omega, if_neg (by omega)]; simp
theorem one_pm : ∀ b, pm 1 b = b := by
  intro b
  induction b using Nat.strongRecOn with
  | ind b ih =>
    by_cases h : b = 0
    · subst h; exact pm_zero 1
    · rw [pm_step, ih (b / 2) (by omega)]
      apply Nat.eq_of_testBit_eq
      intro i
      rw [Nat.testBit_xor]
      cases i with
      | zero => split <;> simp [Nat.testBit_zero] <;> omega
      | succ i =>
        rw [Nat.testBit_succ (2 * (b / 2)), show 2 * (b / 2) / 2 = b / 2 by omega, Nat.testBit_succ b]
        split <;> simp [Nat.testBit_succ]
theorem pm_assoc (a b : Nat) : ∀ c, pm (pm a b) c = pm a (pm b c) := by
  intro c
  induction c using Nat.strongRecOn with
  | ind c ih =>
    by_cases h : c = 0
    · subst h; rw [pm_zero, pm_zero, pm_zero]
    · rw [pm_step (pm a b) c, pm_step b c, pm_xor_right, pm_dbl_right, ih (c / 2) (by omega)]
      congr 1
      split
      · rfl
      · rw [pm_zero]
/-- a has degree i. -/
def Deg (a i : Nat) : Prop := 2 ^ i ≤ a ∧ a < 2 ^ (i + 1)
theorem Deg.pos {a i : Nat} (h : Deg a i) : 0 < a := Nat.lt_of_lt_of_le (Nat.two_pow_pos i) h.1
theorem Deg.eq {a i j : Nat} (h : Deg a i) (k : Deg a j) : i = j := by
  have h1 : i < j + 1 := (Nat.pow_lt_pow_iff_right (a := 2) (by decide)).1 (Nat.lt_of_le_of_lt h.1 k.2)
  have h2 : j < i + 1 := (Nat.pow_lt_pow_iff_right (a := 2) (by decide)).1 (Nat.lt_of_le_of_lt k.1 h.2)
  omega
/-- a is quotient q times b, and the rest r. -/
def IsDiv (a b q r : Nat) : Prop := a = pm q b ^^^ r ∧ (r = 0 ∨ ∃ i j, Deg r i ∧ Deg b j ∧ i < j)
/-- c divides a. -/
def Dvd (c a : Nat) : Prop := ∃ q, a = pm q c
theorem Dvd.zero (c : Nat) : Dvd c 0 := ⟨0, (zero_pm c).symm⟩
theorem Dvd.refl (c : Nat) : Dvd c c := ⟨1, (one_pm c).symm⟩
theorem Dvd.xor {c a b : Nat} (h : Dvd c a) (k : Dvd c b) : Dvd c (a ^^^ b) := by
  obtain ⟨x, rfl⟩ := h
  obtain ⟨y, rfl⟩ := k
  exact ⟨x ^^^ y, (pm_xor_left x y c).symm⟩
theorem Dvd.mul {c a : Nat} (h : Dvd c a) (b : Nat) : Dvd c (pm b a) := by
  obtain ⟨x, rfl⟩ := h
  exact ⟨pm b x, (pm_assoc b x c).symm⟩
theorem Dvd.trans {a b c : Nat} (h : Dvd a b) (k : Dvd b c) : Dvd a c := by
  obtain ⟨y, rfl⟩ := k
  exact h.mul y
theorem Dvd.rest {c a b q r : Nat} (hd : IsDiv a b q r) (ha : Dvd c a) (hb : Dvd c b) : Dvd c r := by
  have : r = a ^^^ pm q b := by
    rw [hd.1, Nat.xor_comm, ← Nat.xor_assoc, Nat.xor_self, Nat.zero_xor]
  rw [this]
  exact ha.xor (hb.mul q)
theorem Dvd.whole {c a b q r : Nat} (hd : IsDiv a b q r) (hb : Dvd c b) (hr : Dvd c r) : Dvd c a := by
  rw [hd.1]
  exact (hb.mul q).xor hr
end Go.Proofs.YtbngkmlipmhgdaaDoor.Bin
/- Small words on memory: a world in which one block alone may have changed; bytes that stand in a row. By the verifier of shale. -/
namespace Go.Proofs.YtbngkmlipmhgdaaDoor
open Go Go.RowKit

/-- number i of a list of bytes, behind a name that no tactic opens. -/
def nth8 (l : List (BitVec 8)) (i : Nat) : BitVec 8 := l.getD i 0
/-- the bytes l stand from address p on. -/
def Row8 (w : World) (bb off : Nat) (l : List (BitVec 8)) : Prop := ∀ i, i < l.length → w.cell? ⟨bb, off + i, none⟩ = some (.int .u8 (Bits32.b (nth8 l i)))
theorem Row8.only {s : Nat} {w w' : World} {bb off : Nat} {l : List (BitVec 8)} (h : Row8 w bb off l) (o : Only s w w') (hb : bb ≠ s) : Row8 w' bb off l :=
  fun i hi => (o.cell (p := ⟨bb, off + i, none⟩) hb).trans (h i hi)
theorem Row8.below {B : Nat} {w w' : World} {bb off : Nat} {l : List (BitVec 8)} (h : Row8 w bb off l) (o : Below B w w') (hb : bb < B) : Row8 w' bb off l :=
  fun i hi => (o.cell (p := ⟨bb, off + i, none⟩) hb).trans (h i hi)
theorem Row8.take {w : World} {bb off : Nat} {l : List (BitVec 8)} (h : Row8 w bb off l) (k : Nat) : Row8 w bb off (l.take k) := by
  intro i hi
  have h1 : i < l.length := by simp at hi; omega
  have h2 : i < k := by simp at hi; omega
  have := h i h1
  unfold nth8 at this ⊢
  rwa [List.getD_eq_getElem?_getD, List.getElem?_take_of_lt h2, ← List.getD_eq_getElem?_getD]
theorem Row8.drop {w : World} {bb off : Nat} {l : List (BitVec 8)} (h : Row8 w bb off l) (k : Nat) : Row8 w bb (off + k) (l.drop k) := by
  intro i hi
  have h1 : k + i < l.length := by simp at hi; omega
  have := h (k + i) h1
  unfold nth8 at this ⊢
  rw [Nat.add_assoc]
  rwa [List.getD_eq_getElem?_getD, List.getElem?_drop, ← List.getD_eq_getElem?_getD]

/-- a slice value that holds the bytes l; nothing beyond its length is said. -/
def IsBytes (w : World) (v : Value) (l : List (BitVec 8)) : Prop :=
  (l = [] ∧ ∃ a cap, v = .slice a 0 cap) ∨ ∃ bb off cap, v = .slice (some ⟨bb, off, none⟩) l.length cap ∧ Row8 w bb off l ∧ bb < w.heap.size
theorem IsBytes.block {w : World} {v : Value} {l : List (BitVec 8)} (h : IsBytes w v l) : ∀ bb off cap, v = .slice (some ⟨bb, off, none⟩) l.length cap → l ≠ [] → bb < w.heap.size := by
  intro bb off cap hv hn
  rcases h with ⟨h, _⟩ | ⟨b2, o2, c2, h, _, hb⟩
  · exact absurd h hn
  · rw [hv] at h
    simp only [Value.slice.injEq, Option.some.injEq, Addr.mk.injEq] at h
    omega
theorem IsBytes.below {B : Nat} {w w' : World} {v : Value} {l : List (BitVec 8)} (h : IsBytes w v l) (o : Below B w w') (hB : ∀ bb off cap, v = .slice (some ⟨bb, off, none⟩) l.length cap → l ≠ [] → bb < B) : IsBytes w' v l := by
  rcases h with h | ⟨bb, off, cap, rfl, hr, hb⟩
  · exact Or.inl h
  · by_cases hn : l = []
    · subst hn; exact Or.inl ⟨rfl, _, _, rfl⟩
    · exact Or.inr ⟨bb, off, cap, rfl, hr.below o (hB bb off cap rfl hn), Nat.lt_of_lt_of_le hb o.size⟩

theorem IsBytes.mk {w : World} {l : List (BitVec 8)} {n bb off cap : Nat} (hn : n = l.length) (hr : Row8 w bb off l) (hb : bb < w.heap.size) : IsBytes w (.slice (some ⟨bb, off, none⟩) n cap) l := by
  subst hn; exact Or.inr ⟨bb, off, cap, rfl, hr, hb⟩
/-- bytes that a call is handed. -/
def Arg8 (W : World) (v : Value) (l : List (BitVec 8)) : Prop := IsBytes W v l ∧ l.length ≤ maxLen
theorem Arg8.nil (W : World) (p : Option Addr) (cap : Nat) : Arg8 W (.slice p 0 cap) [] := ⟨Or.inl ⟨rfl, _, _, rfl⟩, Nat.zero_le _⟩
theorem Arg8.whole {W : World} {l : List (BitVec 8)} {n bb off cap : Nat} (hr : Row8 W bb off l) (hb : bb < W.heap.size) (hn : n = l.length) (hl : n ≤ maxLen) : Arg8 W (.slice (some ⟨bb, off, none⟩) n cap) l := ⟨.mk hn hr hb, by omega⟩
theorem Arg8.take {W : World} {l : List (BitVec 8)} {n bb off cap : Nat} (hr : Row8 W bb off l) (hb : bb < W.heap.size) (hl : l.length ≤ maxLen) (hn : n ≤ l.length) : Arg8 W (.slice (some ⟨bb, off, none⟩) n cap) (l.take n) :=
  ⟨.mk (by simp; omega) (hr.take n) hb, by simp; omega⟩
theorem Arg8.drop {W : World} {l : List (BitVec 8)} {n bb off cap m : Nat} (hr : Row8 W bb off l) (hb : bb < W.heap.size) (hl : l.length ≤ maxLen) (hm : m = l.length - n) : Arg8 W (.slice (some ⟨bb, off + n, none⟩) m cap) (l.drop n) :=
  ⟨.mk (by simp; omega) (hr.drop n) hb, by simp; omega⟩

/-- a block of bytes that a call has made. -/
def obj8 (l : List (BitVec 8)) : Obj := .cells (l.map fun c => Value.int .u8 (Bits32.b c)).toArray 5 (0, 0)
/-- block g holds the bytes l. -/
def Blk8 (w : World) (g : Nat) (l : List (BitVec 8)) : Prop := w.heap[g]? = some (obj8 l)
theorem Blk8.cell {w : World} {g : Nat} {l : List (BitVec 8)} (h : Blk8 w g l) {i : Nat} (hi : i < l.length) : w.cell? ⟨g, i, none⟩ = some (.int .u8 (Bits32.b (nth8 l i))) := by
  unfold World.cell?
  simp only
  rw [show w.heap[g]? = _ from h]
  unfold obj8 nth8
  simp [hi]
theorem Blk8.row {w : World} {g : Nat} {l : List (BitVec 8)} (h : Blk8 w g l) : Row8 w g 0 l := by
  intro i hi
  rw [Nat.zero_add]
  exact h.cell hi
theorem Blk8.lt {w : World} {g : Nat} {l : List (BitVec 8)} (h : Blk8 w g l) : g < w.heap.size := lt_of_block h
theorem Blk8.set {w : World} {g : Nat} {l : List (BitVec 8)} (h : Blk8 w g l) (i : Nat) (c : BitVec 8) : Blk8 (w.setCell ⟨g, i, none⟩ (.int .u8 (Bits32.b c))) g (l.set i c) := by
  have hlt := lt_of_block h
  have h' : w.heap[g] = obj8 l := by simpa [Blk8, Array.getElem?_eq_getElem hlt] using h
  show (w.heap.modify g _)[g]? = _
  rw [Array.getElem?_eq_getElem (by simpa using hlt), Array.getElem_modify_self, h']
  simp [obj8, List.map_set]
theorem Blk8.new (w : World) (l : List (BitVec 8)) : Blk8 (w.alloc (obj8 l)) w.heap.size l := heap_alloc_new w _
theorem Blk8.drew {w : World} {g : Nat} {l : List (BitVec 8)} (h : Blk8 w g l) : Blk8 w.drew g l := h
theorem Blk8.arg {w : World} {g : Nat} {l : List (BitVec 8)} (h : Blk8 w g l) {n cap : Nat} (hn : n = l.length) (hm : n ≤ maxLen) : Arg8 w (.slice (some ⟨g, 0, none⟩) n cap) l :=
  Arg8.whole h.row h.lt hn hm
theorem Arg8.since {B : Nat} {W w : World} {v : Value} {l : List (BitVec 8)} (h : Arg8 W v l) (hB : W.heap.size ≤ B) (o : Below B W w) : Arg8 w v l :=
  ⟨h.1.below o (fun bb off cap hv hn => Nat.lt_of_lt_of_le (h.1.block bb off cap hv hn) hB), h.2⟩
set_option maxRecDepth 100000 in
theorem made8 (w : World) (n : Nat) (hn : n ≤ 1000000) :
    (Instr.makeSlice 31 (.int .i64 (n : Int)) (.int .i64 (n : Int))).run Tryd.prog w = .ok (.slice (some ⟨w.heap.size, 0, none⟩) n n) (w.alloc (obj8 (List.replicate n 0))) := by
  obtain ⟨i0, hi, hz0, hz1, hz2⟩ := info_parts (show (Tryd.prog.info? 5).map (fun i => (i.zero, i.size, i.bytes)) = some (some (.int .u8 0), 1, 1) by kernel_rfl)
  rw [run_make (P := Tryd.prog) w 31 5 i0 (.int .u8 0) Tryd.underlying31 hi hz0 .i64 .i64 (n : Int) (n : Int) (by omega) (by omega) (by rw [hz2]; omega) (by omega)]
  congr 2
  unfold obj8 madeCells
  rw [hz1]
  congr 1
  apply Array.ext
  · simp
  · intro i h1 h2
    simp [Value.cells, Bits32.b, Nat.mod_one]
end Go.Proofs.YtbngkmlipmhgdaaDoor
/- Slices of bytes that the call itself appends to; a piece of a slice whatever its address. By the verifier of shale. -/
namespace Go.Proofs.YtbngkmlipmhgdaaDoor
open Go Go.RowKit
set_option linter.unusedVariables false
def cells8 (l : List (BitVec 8)) : List Value := l.map fun c => Value.int .u8 (Bits32.b c)
theorem cells8_length (l : List (BitVec 8)) : (cells8 l).length = l.length := by simp [cells8]
theorem cells8_one (l : List (BitVec 8)) : ∀ u ∈ cells8 l, u.oneCell' = true := by
  intro u hu
  obtain ⟨_, _, rfl⟩ := List.mem_map.1 hu
  rfl
/-- v is a slice of the call's own (in a block from base on, or nil) that holds the bytes l. -/
def Own8 (w : World) (base : Nat) (v : Value) (n : Nat) (l : List (BitVec 8)) : Prop := w.ownsRow base 5 1 v n (cells8 l)
theorem Own8.nil (w : World) (base : Nat) : Own8 w base (.slice none 0 0) 0 [] := ⟨rfl, Or.inl ⟨rfl, rfl⟩⟩
theorem Own8.len {w : World} {base n : Nat} {v : Value} {l : List (BitVec 8)} (h : Own8 w base v n l) : l.length = n := by
  have := h.1
  rw [cells8_length] at this
  omega
theorem Own8.block {w : World} {base n : Nat} {v : Value} {l : List (BitVec 8)} (h : Own8 w base v n l) : ∀ g, v.ownBlock = some g → base ≤ g ∧ g < w.heap.size := by
  intro g hg
  rcases h.2 with ⟨h0, _⟩ | ⟨g', cap', cur, hv, hbg, hh, _⟩
  · rw [h0] at hg; cases hg
  · rw [hv] at hg
    simp only [Value.ownBlock, Option.some.injEq] at hg
    subst hg
    exact ⟨hbg, lt_of_block hh⟩
theorem Own8.keep {w w' : World} {base n : Nat} {v : Value} {l : List (BitVec 8)} (h : Own8 w base v n l) (o : ∀ g, v.ownBlock = some g → w'.heap[g]? = w.heap[g]?) : Own8 w' base v n l := by
  refine ⟨h.1, ?_⟩
  rcases h.2 with h0 | ⟨g', cap', cur, hv, hbg, hh, r⟩
  · exact Or.inl h0
  · exact Or.inr ⟨g', cap', cur, hv, hbg, by rw [o g' (by rw [hv]; rfl)]; exact hh, r⟩
theorem Own8.bytes {w : World} {base n : Nat} {v : Value} {l : List (BitVec 8)} (h : Own8 w base v n l) : IsBytes w v l := by
  rcases h.2 with ⟨h0, h1⟩ | ⟨g', cap', cur, hv, hbg, hh, hn, hm, hs, ht⟩
  · exact Or.inl ⟨List.eq_nil_of_length_eq_zero (h.len.trans h1), _, _, h0⟩
  · have hl := h.len
    refine Or.inr ⟨g', 0, cap', by rw [hl]; exact hv, ?_, lt_of_block hh⟩
    intro i hi
    rw [Nat.zero_add]
    unfold World.cell?
    simp only
    rw [hh]
    have e : cur.toList[i]? = (cells8 l)[i]? := by
      rw [← ht, List.getElem?_take_of_lt (by omega)]
    simp only [Array.getElem?_toList] at e
    simp only
    rw [e]
    unfold cells8 nth8
    simp [hi]
theorem info8 : ∃ i, Tryd.prog.info? 5 = some i ∧ i.zero = some (.int .u8 0) ∧ i.size = 1 ∧ i.bytes = 1 :=
  info_parts (show (Tryd.prog.info? 5).map (fun i => (i.zero, i.size, i.bytes)) = some (some (.int .u8 0), 1, 1) by kernel_rfl)
/-- n bytes from p on, wherever that is; no bytes may be anywhere. -/
def Arr8 (w : World) (p : Option Addr) (n : Nat) (l : List (BitVec 8)) : Prop := n = 0 ∨ ∃ bb off, p = some ⟨bb, off, none⟩ ∧ Row8 w bb off l ∧ bb < w.heap.size
theorem Arr8.below {w w' : World} {p : Option Addr} {n : Nat} {l : List (BitVec 8)} (h : Arr8 w p n l) (o : Below w.heap.size w w') : Arr8 w' p n l := by
  rcases h with h | ⟨bb, off, hp, hr, hb⟩
  · exact Or.inl h
  · exact Or.inr ⟨bb, off, hp, hr.below o hb, Nat.lt_of_lt_of_le hb o.size⟩
theorem Upd.grown {s : Nat} {a b c : World} {row : Option Nat} (h : Upd s a b) (g : b.grownBy c row) (hr : ∀ k, row = some k → a.heap.size ≤ k) : Upd s a c :=
  ⟨g.os.trans h.os, g.tape.trans h.tape, g.output.trans h.output, Nat.le_trans h.size g.size, fun k hk hs => (g.block k (Nat.lt_of_lt_of_le hk h.size) (fun e => by have := hr k e.symm; omega)).trans (h.block k hk hs)⟩
end Go.Proofs.YtbngkmlipmhgdaaDoor
/- A block that holds bytes, and maybe more behind them. By the verifier of shale. -/
namespace Go.Proofs.YtbngkmlipmhgdaaDoor
open Go Go.RowKit
set_option linter.unusedVariables false
/-- block g holds the bytes l, and maybe more behind them. -/
def Buf8 (w : World) (g : Nat) (l : List (BitVec 8)) : Prop := ∃ cur t, w.heap[g]? = some (.cells cur t (0, 0)) ∧ ∀ i, i < l.length → cur[i]? = some (.int .u8 (Bits32.b (nth8 l i)))
theorem Buf8.lt {w : World} {g : Nat} {l : List (BitVec 8)} (h : Buf8 w g l) : g < w.heap.size := by obtain ⟨_, _, h, _⟩ := h; exact lt_of_block h
theorem Buf8.cell {w : World} {g : Nat} {l : List (BitVec 8)} (h : Buf8 w g l) (i : Nat) (hi : i < l.length) : w.cell? ⟨g, i, none⟩ = some (.int .u8 (Bits32.b (nth8 l i))) := by
  obtain ⟨cur, t, hh, hc⟩ := h
  unfold World.cell?
  simp only
  rw [hh]
  exact hc i hi
theorem Buf8.row {w : World} {g : Nat} {l : List (BitVec 8)} (h : Buf8 w g l) : Row8 w g 0 l := by
  intro i hi; rw [Nat.zero_add]; exact h.cell i hi
theorem Buf8.below {B : Nat} {w w' : World} {g : Nat} {l : List (BitVec 8)} (h : Buf8 w g l) (b : Below B w w') (hg : g < B) : Buf8 w' g l := by
  obtain ⟨cur, t, hh, hc⟩ := h
  exact ⟨cur, t, (b.block _ hg).trans hh, hc⟩
theorem Buf8.set {w : World} {g : Nat} {l : List (BitVec 8)} (h : Buf8 w g l) (i : Nat) (hi : i < l.length) (c : BitVec 8) : Buf8 (w.setCell ⟨g, i, none⟩ (.int .u8 (Bits32.b c))) g (l.set i c) := by
  obtain ⟨cur, t, hh, hc⟩ := h
  have hlt := lt_of_block hh
  have h' : w.heap[g] = .cells cur t (0, 0) := by rw [Array.getElem?_eq_getElem hlt] at hh; exact Option.some.inj hh
  refine ⟨cur.setIfInBounds i (.int .u8 (Bits32.b c)), t, ?_, ?_⟩
  · show (w.heap.modify g _)[g]? = _
    rw [Array.getElem?_eq_getElem (by simpa using hlt), Array.getElem_modify_self, h']
    rfl
  · intro j hj
    rw [List.length_set] at hj
    have hcj := hc j hj
    have hjs : j < cur.size := (Array.getElem?_eq_some_iff.1 hcj).1
    by_cases e : i = j
    · subst e
      rw [Array.getElem?_setIfInBounds_self, if_pos hjs]
      unfold nth8
      simp [hi]
    · rw [Array.getElem?_setIfInBounds_ne e, hcj]
      unfold nth8
      rw [List.getD_eq_getElem?_getD, List.getD_eq_getElem?_getD, List.getElem?_set_ne e]
theorem Own8.buf {w : World} {base g n cap : Nat} {l : List (BitVec 8)} (h : Own8 w base (.slice (some ⟨g, 0, none⟩) n cap) n l) : Buf8 w g l ∧ n = l.length ∧ n ≤ cap := by
  have hl := h.len
  rcases h.2 with ⟨h0, h1⟩ | ⟨g', cap', cur, hv, hbg, hh, hn, hm, hs, ht⟩
  · cases h0
  · simp only [Value.slice.injEq, Option.some.injEq, Addr.mk.injEq] at hv
    obtain ⟨⟨rfl, _⟩, _, rfl⟩ := hv
    refine ⟨⟨cur, _, hh, ?_⟩, hl.symm, hn⟩
    intro i hi
    have e : cur.toList[i]? = (cells8 l)[i]? := by rw [← ht, List.getElem?_take_of_lt (by omega)]
    simp only [Array.getElem?_toList] at e
    rw [e]
    unfold cells8 nth8
    simp [hi]
end Go.Proofs.YtbngkmlipmhgdaaDoor
/- What a walk is told of a slice of integers that came in. By the verifier of shale. -/
namespace Go.Proofs.YtbngkmlipmhgdaaDoor
open Go Go.RowKit
/-- A slice of integers that came in: it is nil; or it leads to a row of 'cap' cells, the numbers 'zs' (the first 'len' are its elements, the rest its spare room), each fitting its kind. -/
def IsRow (k : IntKind) (w : World) (a : Option Addr) (len cap : Nat) (zs : List Int) : Prop :=
  (a = none ∧ len = 0 ∧ cap = 0 ∧ zs = []) ∨
  ∃ x, a = some x ∧ len ≤ cap ∧ cap ≤ maxLen ∧ zs.length = cap ∧ (∀ i, i < zs.length → w.cell? (x.add i) = some (.int k (zs.getD i 0))) ∧ ∀ n ∈ zs, (Lit.int k n).wf = true

theorem add_row (bb off i : Nat) : (⟨bb, off, none⟩ : Addr).add i = ⟨bb, off + i, none⟩ := by
  by_cases h : i = 0 <;> simp [Addr.add, h]
theorem b_ofInt (n : Int) (h : (Lit.int .u8 n).wf = true) : Bits32.b (BitVec.ofInt 8 n) = n := by
  have h2 := bounds_u8 h
  unfold Bits32.b
  rw [BitVec.toNat_ofInt]
  omega
/-- bytes that came in: none of them, or a row. -/
theorem IsRow.bytes {w : World} {a : Option Addr} {len cap : Nat} {zs : List Int} (h : IsRow .u8 w a len cap zs) :
    len ≤ maxLen ∧ ((len = 0) ∨ ∃ bb off l, a = some ⟨bb, off, none⟩ ∧ l.length = len ∧ len ≤ cap ∧ Row8 w bb off l ∧ bb < w.heap.size) := by
  rcases h with ⟨rfl, rfl, rfl, rfl⟩ | ⟨x, rfl, hl, hm, hz, hc, hw⟩
  · exact ⟨Nat.zero_le _, Or.inl rfl⟩
  · refine ⟨by omega, ?_⟩
    by_cases h0 : len = 0
    · exact Or.inl h0
    · obtain ⟨bb, off, spot⟩ := x
      have c0 := hc 0 (by omega)
      obtain rfl : spot = none := by simpa [Addr.add] using World.cell?_spot c0
      refine Or.inr ⟨bb, off, (zs.take len).map (BitVec.ofInt 8), rfl, by simp; omega, hl, ?_, World.block_lt_of_cell? w _ c0⟩
      intro i hi
      have hi' : i < len := by simp at hi; omega
      have ci := hc i (by omega)
      have hz' : i < zs.length := by omega
      have e : nth8 ((zs.take len).map (BitVec.ofInt 8)) i = BitVec.ofInt 8 (zs.getD i 0) := by
        unfold nth8
        rw [List.getD_eq_getElem?_getD, List.getElem?_map, List.getElem?_take_of_lt hi', List.getElem?_eq_getElem hz', List.getD_eq_getElem?_getD, List.getElem?_eq_getElem hz']
        rfl
      rw [e, b_ofInt]
      · rwa [add_row] at ci
      · rw [List.getD_eq_getElem?_getD, List.getElem?_eq_getElem hz']
        exact hw _ (List.getElem_mem hz')
theorem IsRow.nil_cap {k : IntKind} {w : World} {a : Option Addr} {len cap : Nat} {zs : List Int} (h : IsRow k w a len cap zs) : a = none → cap = 0 := by
  rintro rfl
  rcases h with ⟨_, _, h, _⟩ | ⟨x, h, _⟩
  · exact h
  · cases h
/-- a slice of ints that came in: each element is there. -/
theorem IsRow.at {k : IntKind} {w : World} {a : Option Addr} {len cap : Nat} {zs : List Int} (h : IsRow k w a len cap zs) :
    len ≤ maxLen ∧ len ≤ cap ∧ ∀ i, i < len → ∃ bb off z, a = some ⟨bb, off, none⟩ ∧ w.cell? ⟨bb, off + i, none⟩ = some (.int k z) ∧ bb < w.heap.size ∧ (Lit.int k z).wf = true := by
  rcases h with ⟨rfl, rfl, rfl, rfl⟩ | ⟨x, rfl, hl, hm, hz, hc, hw⟩
  · exact ⟨Nat.zero_le _, Nat.le_refl _, fun i hi => by omega⟩
  · refine ⟨by omega, hl, fun i hi => ?_⟩
    obtain ⟨bb, off, spot⟩ := x
    have c0 := hc i (by omega)
    obtain rfl : spot = none := by simpa [Addr.add] using World.cell?_spot (hc 0 (by omega))
    rw [add_row] at c0
    refine ⟨bb, off, _, rfl, c0, World.block_lt_of_cell? w _ c0, ?_⟩
    rw [List.getD_eq_getElem?_getD, List.getElem?_eq_getElem (by omega)]
    exact hw _ (List.getElem_mem (by omega))
end Go.Proofs.YtbngkmlipmhgdaaDoor
/- shaleref.Bytes: a copy of bytes in new memory. By the verifier of shale. -/
namespace Go.Proofs.YtbngkmlipmhgdaaDoor
open Go Go.RowKit
theorem own_all {w : World} {base g n : Nat} {l : List (BitVec 8)} (h : w.ownsRow base 5 1 (.slice (some ⟨g, 0, none⟩) n n) n (l.map fun c => Value.int .u8 (Bits32.b c))) : Blk8 w g l := by
  obtain ⟨hl, h2⟩ := h
  rcases h2 with ⟨h0, _⟩ | ⟨g', cap', cur, hv, hbg, hg, hnc, hcm, hcs, htake⟩
  · cases h0
  · simp only [Value.slice.injEq, Option.some.injEq, Addr.mk.injEq] at hv
    obtain ⟨⟨rfl, _⟩, _, rfl⟩ := hv
    unfold Blk8 obj8
    rw [hg]
    congr 2
    rw [← htake]
    rw [List.take_of_length_le (by simp; omega)]
set_option maxRecDepth 100000 in
set_option maxHeartbeats 1000000 in
theorem copy_all (p : Option Addr) (n cap : Nat) (l : List (BitVec 8)) (w : World) (hp : p = none → n = 0 ∧ cap = 0) (hr : n = 0 ∨ ∃ bb off, p = some ⟨bb, off, none⟩ ∧ Row8 w bb off l ∧ bb < w.heap.size) (hn : n = l.length) (hm : n ≤ 1000000) :
    Calls Tryd.prog 10 #[.slice p n cap] w fun e w' => e = .returned (.slice (some ⟨w.heap.size, 0, none⟩) n n) ∧ Blk8 w' w.heap.size l ∧ Below w.heap.size w w' := by
  obtain ⟨i0, hi, hz0, hz1, hz2⟩ := info_parts (show (Tryd.prog.info? 5).map (fun i => (i.zero, i.size, i.bytes)) = some (some (.int .u8 0), 1, 1) by kernel_rfl)
  have HN := Lib.hid hn
  have hnews : (l.map fun c => Value.int .u8 (Bits32.b c)).length = n * 1 := by simp; omega
  have h1c : ∀ u ∈ (l.map fun c => Value.int .u8 (Bits32.b c)), u.oneCell' = true := by
    intro u hu
    obtain ⟨_, _, rfl⟩ := List.mem_map.1 hu
    rfl
  have hcell : ∀ w0 : World, (∀ k, k < w.heap.size → w0.heap[k]? = w.heap[k]?) → ∀ ad, p = some ad → ∀ j u, (l.map fun c => Value.int .u8 (Bits32.b c))[j]? = some u → w0.cell? (ad.add j) = some u := by
    intro w0 h0 ad had j u hu
    have hj : j < l.length := by
      have := (List.getElem?_eq_some_iff.1 hu).1
      simpa using this
    rcases hr with hr | ⟨bb, off, hpp, hr, hb⟩
    · omega
    · rw [hpp] at had
      obtain rfl := Option.some.inj had
      have e : (⟨bb, off, none⟩ : Addr).add j = ⟨bb, off + j, none⟩ := by by_cases h : j = 0 <;> simp [Addr.add, h]
      rw [e, World.cell?_of_block (w := w) (h0 bb hb), hr j hj]
      rw [List.getElem?_map, List.getElem?_eq_getElem hj] at hu
      rw [← hu]
      unfold nth8
      rw [List.getD_eq_getElem?_getD, List.getElem?_eq_getElem hj]
      rfl
  have HC := Lib.hid hcell
  have HL := Lib.hid hnews
  have H1 := Lib.hid h1c
  have HP := Lib.hid hp
  clear hn hr hcell hnews h1c hp
  go_enter Tryd.func10, Tryd.ntmps10
  go_wp2_with (first
    | (at_make; refine wpList_make_own _ rfl _ _ 31 rfl w.heap.size 5 i0 (.int .u8 0) 1 Tryd.underlying31 hi hz0 hz1 .i64 .i64 _ n rfl rfl (by omega) (by rw [hz2]; omega) (by unfold maxLen; omega) (Nat.le_refl _) ?_; intro w0 hown0 hgrow0)
    | (at_builtin; refine wpList_append_fits_any _ rfl _ _ 31 rfl w.heap.size 5 i0 1 Tryd.underlying31 hi hz1 w.heap.size 0 n [] rfl hown0 p n cap (l.map fun c => Value.int .u8 (Bits32.b c)) rfl HL.out HP.out (HC.out _ (fun k hk => hgrow0.block k hk (by simp))) H1.out (by omega) ?_; intro w1 hown1 hgrow1))
  go_ret
  refine ⟨by simp, ?_, ?_⟩
  · rw [Nat.zero_add] at hown1
    exact own_all hown1
  · exact ((Below.refl _ _).grown hgrow0 (Nat.le_refl _) (by simp)).grown hgrow1 hgrow0.size (by intro k hk; simp at hk; omega)
end Go.Proofs.YtbngkmlipmhgdaaDoor
/- shaleref.Bytes of bytes that came in; appending to such a copy. By the verifier of shale. -/
namespace Go.Proofs.YtbngkmlipmhgdaaDoor
open Go Go.RowKit
set_option linter.unusedVariables false
theorem Arg8.len {W : World} {p : Option Addr} {n cap : Nat} {l : List (BitVec 8)} (h : Arg8 W (.slice p n cap) l) : n = l.length := by
  rcases h.1 with ⟨rfl, a, c, e⟩ | ⟨bb, off, c, e, _, _⟩
  · simp only [Value.slice.injEq] at e; exact e.2.1
  · simp only [Value.slice.injEq] at e; exact e.2.1
theorem copy_of {p : Option Addr} {n cap : Nat} {l : List (BitVec 8)} {w : World} (h : Arg8 w (.slice p n cap) l) (hp : p = none → cap = 0) (hm : n ≤ 1000000) :
    Calls Tryd.prog 10 #[.slice p n cap] w fun e w' => e = .returned (.slice (some ⟨w.heap.size, 0, none⟩) n n) ∧ Blk8 w' w.heap.size l ∧ Below w.heap.size w w' := by
  have hn := h.len
  refine copy_all p n cap l w ?_ ?_ hn hm
  · intro e
    refine ⟨?_, hp e⟩
    rcases h.1 with ⟨rfl, _⟩ | ⟨bb, off, c, e', _, _⟩
    · exact hn
    · rw [e] at e'; simp at e'
  · rcases h.1 with ⟨rfl, _⟩ | ⟨bb, off, c, e', hr, hb⟩
    · exact Or.inl hn
    · simp only [Value.slice.injEq] at e'
      exact Or.inr ⟨bb, off, e'.1, hr, hb⟩
/-- a block of the call's own is a slice of its own. -/
theorem Blk8.own {w : World} {g base n : Nat} {l : List (BitVec 8)} (h : Blk8 w g l) (hb : base ≤ g) (hn : n = l.length) (hm : n ≤ maxLen) : Own8 w base (.slice (some ⟨g, 0, none⟩) n n) n l := by
  refine ⟨by rw [cells8_length]; omega, Or.inr ⟨g, n, (cells8 l).toArray, rfl, hb, h, Nat.le_refl _, hm, by simp [cells8_length, hn], ?_⟩⟩
  rw [List.toList_toArray]
  rw [List.take_of_length_le (by rw [cells8_length]; omega)]
end Go.Proofs.YtbngkmlipmhgdaaDoor
/- Structs of integers that came in by value. By the verifier of shale. -/
namespace Go.Proofs.YtbngkmlipmhgdaaDoor
open Go Go.RowKit Go.ChangeShapes Go.WideShapes Go.Deep
/-- a struct of integers alone, handed in by value: its cells are integers that fit. -/
theorem open_ints_struct {H : Type} {enc : TypeId × Value → H} {P : Program} {w : World} {base b0 : Nat} {spare : Nat → Bool} {held : Bool} {r : Reach} {k : IntKind} {t : TypeId} {fs : Array Field} {v : Value} {d : DataW H} {p : List MemPlace}
    (hs : P.underlying t = some (.struct fs)) (hone : oneCellFields P fs = true) (hC : P.cellsOf t = fs.size) (hi : ∀ (j : Nat) (f : Field), fs[j]? = some f → P.underlying f.type = some (.int k))
    (hv : Value.okWide P w r b0 t v) (h : DataW.Trod enc P w base spare held t v d p) :
    ∃ n : Nat → Int, v = .agg ((List.range fs.size).map fun i => .int k (n i)).toArray ∧ ∀ i, i < fs.size → (Lit.int k (n i)).wf = true := by
  obtain ⟨cs, rfl, hsz⟩ := okWide_struct hs hv
  obtain ⟨fuel, hf⟩ := h
  obtain ⟨xs, n, _, _, hl, _, hg⟩ := DataW.trod_struct hs hf
  have each : ∀ j, j < fs.size → ∃ m, cs[j]? = some (.int k m) ∧ (Lit.int k m).wf = true := by
    intro j hj
    have hf0 : fs[j]? = some (fs[j]'hj) := Array.getElem?_eq_getElem hj
    obtain ⟨o, c⟩ := hone_of hone j _ hf0
    have g := hg j _ hf0
    rw [o, c] at g
    have hx : j < xs.length := by omega
    rw [List.getElem?_eq_getElem hx] at g
    obtain ⟨m, e, _, hw⟩ := DataW.trod_int (hi j _ hf0) g
    refine ⟨m, ?_, hw⟩
    have hj2 : j < cs.toList.length := by rw [Array.length_toList]; omega
    have e2 : (cs.toList.drop j).take 1 = [.int k m] := by simpa [Value.cells] using e
    rw [List.drop_eq_getElem_cons hj2] at e2
    simp only [List.take_succ_cons, List.take_zero, List.cons.injEq, and_true] at e2
    rw [Array.getElem?_eq_getElem (by simpa using hj2)]
    congr 1
  refine ⟨fun j => match cs[j]? with | some (.int _ m) => m | _ => 0, ?_, fun i hi => ?_⟩
  · congr 1
    apply Array.ext_getElem?
    intro j
    by_cases hj : j < fs.size
    · obtain ⟨m, e, _⟩ := each j hj
      rw [e]
      simp [hj, e]
    · have h1 : cs.size ≤ j := by omega
      rw [Array.getElem?_eq_none h1, Array.getElem?_eq_none (by simp; omega)]
  · obtain ⟨m, e, hw⟩ := each i hi
    simp only [e]
    exact hw
end Go.Proofs.YtbngkmlipmhgdaaDoor
/- A list of what a model is told, handed in. By the verifier of shale. -/
namespace Go.Proofs.YtbngkmlipmhgdaaDoor
open Go Go.RowKit Go.ChangeShapes Go.WideShapes Go.Deep
set_option linter.unusedVariables false
set_option linter.unusedSimpArgs false
/-- one thing that a model is told: key, whether it is to be zeros, data, whether all is flushed. -/
structure MdV where
  key : Int
  trim : Bool
  a : Option Addr
  n : Nat
  c : Nat
  z : List Int
  flush : Bool
def MdAt (w : World) (bb o : Nat) (d : MdV) : Prop := w.cell? ⟨bb, o, none⟩ = some (.int .i64 d.key) ∧ w.cell? ⟨bb, o + 1, none⟩ = some (.bool d.trim) ∧ w.cell? ⟨bb, o + 2, none⟩ = some (.slice d.a d.n d.c) ∧ w.cell? ⟨bb, o + 3, none⟩ = some (.bool d.flush) ∧ IsRow .u8 w d.a d.n d.c d.z ∧ (Lit.int .i64 d.key).wf = true
def RowMd (w : World) (a : Option Addr) (len : Nat) (D : Nat → MdV) : Prop := ∀ i, i < len → ∃ bb off, a = some ⟨bb, off, none⟩ ∧ MdAt w bb (off + i * 4) (D i)
theorem row_md {H : Type} {enc : TypeId × Value → H} {w : World} {base : Nat} {held : Bool} {fuel : Nat} {a : Option Addr} {len cap : Nat} {x : DataW H × List MemPlace}
    (h : DataW.trod enc Tryd.prog w base (fun _ => true) held fuel 22 [.slice a len cap] = some x) : ∃ D, RowMd w a len D := by
  have each : ∀ i, i < len → ∃ d : MdV, ∃ bb off, a = some ⟨bb, off, none⟩ ∧ MdAt w bb (off + i * 4) d := by
    intro i hi
    rcases open_slice Tryd.underlying22 h with ⟨h0, _⟩ | ⟨p, len', cap', m, n, D, Pl, hcs, hb, hl, hm, hmm, hx, hat⟩
    · simp only [List.cons.injEq, and_true] at h0
      cases h0
      omega
    · simp only [List.cons.injEq, and_true] at hcs
      cases hcs
      have hspot : p.spot = none := by
        obtain ⟨cs0, hc0, _⟩ := hat 0 (by rw [hmm]; split <;> omega)
        rw [show Tryd.prog.cellsOf 35 = 4 by kernel_rfl] at hc0
        obtain ⟨_, hl0, hcell0⟩ := World.cells?_some hc0
        have d00 := (hcell0 0 (by omega)).trans (List.getElem?_eq_getElem (by omega))
        simpa [Addr.add] using World.cell?_spot d00
      obtain ⟨cs', hc, ht⟩ := hat i (by rw [hmm]; split <;> omega)
      rw [show Tryd.prog.cellsOf 35 = 4 by kernel_rfl] at hc
      obtain ⟨_, hcl, hcell⟩ := World.cells?_some hc
      obtain ⟨xs, n1, _, _, _, hxl, hf⟩ := DataW.trod_struct Tryd.underlying35 ht
      have f0 := hf 0 _ rfl
      have f1 := hf 1 _ rfl
      match cs', hcl, xs, hxl with
      | [v0, v1, v2, v3], _, [x0, x1], _ =>
        change DataW.trod enc Tryd.prog w base (fun _ => true) held n1 33 (([v0, v1, v2, v3].drop 0).take (Tryd.prog.cellsOf 33)) = some x0 at f0
        change DataW.trod enc Tryd.prog w base (fun _ => true) held n1 4 (([v0, v1, v2, v3].drop 3).take (Tryd.prog.cellsOf 4)) = some x1 at f1
        rw [show Tryd.prog.cellsOf 33 = 3 by kernel_rfl] at f0
        rw [show Tryd.prog.cellsOf 4 = 1 by kernel_rfl] at f1
        change DataW.trod enc Tryd.prog w base (fun _ => true) held n1 33 [v0, v1, v2] = some x0 at f0
        change DataW.trod enc Tryd.prog w base (fun _ => true) held n1 4 [v3] = some x1 at f1
        obtain ⟨b3, e3, _⟩ := DataW.trod_bool Tryd.underlying4 f1
        obtain ⟨ys, n2, _, _, _, hyl, hg⟩ := DataW.trod_struct Tryd.underlying33 f0
        have g0 := hg 0 _ rfl
        have g1 := hg 1 _ rfl
        have g2 := hg 2 _ rfl
        match ys, hyl with
        | [y0, y1, y2], _ =>
          change DataW.trod enc Tryd.prog w base (fun _ => true) held n2 3 (([v0, v1, v2].drop 0).take (Tryd.prog.cellsOf 3)) = some y0 at g0
          change DataW.trod enc Tryd.prog w base (fun _ => true) held n2 4 (([v0, v1, v2].drop 1).take (Tryd.prog.cellsOf 4)) = some y1 at g1
          change DataW.trod enc Tryd.prog w base (fun _ => true) held n2 31 (([v0, v1, v2].drop 2).take (Tryd.prog.cellsOf 31)) = some y2 at g2
          rw [show Tryd.prog.cellsOf 3 = 1 by kernel_rfl] at g0
          rw [show Tryd.prog.cellsOf 4 = 1 by kernel_rfl] at g1
          rw [show Tryd.prog.cellsOf 31 = 1 by kernel_rfl] at g2
          change DataW.trod enc Tryd.prog w base (fun _ => true) held n2 3 [v0] = some y0 at g0
          change DataW.trod enc Tryd.prog w base (fun _ => true) held n2 4 [v1] = some y1 at g1
          change DataW.trod enc Tryd.prog w base (fun _ => true) held n2 31 [v2] = some y2 at g2
          obtain ⟨k0, e0, _, w0⟩ := DataW.trod_int Tryd.underlying3 g0
          obtain ⟨b1, e1, _⟩ := DataW.trod_bool Tryd.underlying4 g1
          simp only [List.cons.injEq, and_true] at e0 e1 e3
          subst e0 e1 e3
          have h2 : ∃ a2 n2 c2 z2, v2 = .slice a2 n2 c2 ∧ IsRow .u8 w a2 n2 c2 z2 := by
            rcases open_ints Tryd.underlying31 Tryd.underlying5 (by kernel_rfl) g2 with ⟨hcs, _⟩ | ⟨x, l, c, zs, hcs, _, hl, hm, hz, _, hcell, hwz⟩
            · simp at hcs
              exact ⟨_, _, _, [], hcs, .inl ⟨rfl, rfl, rfl, rfl⟩⟩
            · simp at hcs
              exact ⟨_, _, _, zs, hcs, .inr ⟨_, rfl, hl, hm, by simpa using hz, hcell, hwz⟩⟩
          obtain ⟨a2, l2, c2, z2, rfl, hr⟩ := h2
          obtain ⟨bb, off, spot⟩ := p
          have d0 := hcell 0 (by omega)
          have d1 := hcell 1 (by omega)
          have d2 := hcell 2 (by omega)
          have d3 := hcell 3 (by omega)
          obtain rfl : spot = none := hspot
          have hadd : ∀ j, (((⟨bb, off, none⟩ : Addr).add (i * 4)).add j) = ⟨bb, off + i * 4 + j, none⟩ := fun j => by unfold Addr.add; split <;> split <;> simp_all
          rw [hadd] at d0 d1 d2 d3
          exact ⟨⟨k0, b1, a2, l2, c2, z2, b3⟩, bb, off, rfl, d0, d1, d2, d3, hr, w0⟩
  exact ⟨fun i => if h : i < len then (each i h).choose else ⟨0, false, none, 0, 0, [], false⟩, fun i hi => by
    obtain ⟨bb, off, h1, h2⟩ := (each i hi).choose_spec
    refine ⟨bb, off, h1, ?_⟩
    simp only [dif_pos hi]
    exact h2⟩
end Go.Proofs.YtbngkmlipmhgdaaDoor
