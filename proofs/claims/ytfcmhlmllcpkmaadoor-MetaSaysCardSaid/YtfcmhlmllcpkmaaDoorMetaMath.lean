/- Records as bytes. No program is named here. By the verifier of shale. -/
import Derived.Test.YtfcmhlmllcpkmaaDoorCrcMath
import Derived.Test.YtfcmhlmllcpkmaaDoorBits
namespace Go.Proofs.YtfcmhlmllcpkmaaDoor.Meta
open Go Crc
set_option linter.unusedVariables false
/-- a record's six numbers. -/
structure M6 where
  kind : Int
  key : Int
  seq : Int
  stamp : Int
  batch : Int
  floor : Int
def fld (m : M6) : Nat → Int
  | 0 => m.kind | 1 => m.key | 2 => m.seq | 3 => m.stamp | 4 => m.batch | 5 => m.floor | _ => 0
/-- may that be a record? -/
def May (m : M6) : Prop := (∀ i, i < 6 → 0 ≤ fld m i ∧ fld m i ≤ 1073741824) ∧ 1 ≤ m.kind ∧ m.kind ≤ 6
instance (m : M6) : Decidable (May m) := by unfold May; exact inferInstance
/-- byte i of a number. -/
def byteOf (n : Int) (i : Nat) : BitVec 8 := BitVec.ofInt 8 (n / 2 ^ (8 * i))
theorem b_byteOf (n : Int) (i : Nat) : Bits32.b (byteOf n i) = n / 2 ^ (8 * i) % 256 := by
  unfold Bits32.b byteOf
  rw [BitVec.toNat_ofInt]
  omega
def le32 (n : Int) : List (BitVec 8) := [byteOf n 0, byteOf n 1, byteOf n 2, byteOf n 3]
theorem le32_length (n : Int) : (le32 n).length = 4 := rfl
/-- the number of four bytes. -/
def un32 (l : List (BitVec 8)) : Int := Bits32.b (l.getD 0 0) + 256 * Bits32.b (l.getD 1 0) + 65536 * Bits32.b (l.getD 2 0) + 16777216 * Bits32.b (l.getD 3 0)
theorem un32_lo (l : List (BitVec 8)) : 0 ≤ un32 l := by
  unfold un32
  have := Bits32.b_lo (l.getD 0 0); have := Bits32.b_lo (l.getD 1 0); have := Bits32.b_lo (l.getD 2 0); have := Bits32.b_lo (l.getD 3 0)
  omega
theorem un32_hi (l : List (BitVec 8)) : un32 l < 4294967296 := by
  unfold un32
  have := Bits32.b_hi (l.getD 0 0); have := Bits32.b_hi (l.getD 1 0); have := Bits32.b_hi (l.getD 2 0); have := Bits32.b_hi (l.getD 3 0)
  omega
theorem un32_le32 (n : Int) (h0 : 0 ≤ n) (h1 : n < 4294967296) (r : List (BitVec 8)) : un32 (le32 n ++ r) = n := by
  have e0 := b_byteOf n 0
  have e1 := b_byteOf n 1
  have e2 := b_byteOf n 2
  have e3 := b_byteOf n 3
  show Bits32.b (byteOf n 0) + 256 * Bits32.b (byteOf n 1) + 65536 * Bits32.b (byteOf n 2) + 16777216 * Bits32.b (byteOf n 3) = n
  rw [e0, e1, e2, e3]
  have p0 : (2 : Int) ^ (8 * 0) = 1 := by decide
  have p1 : (2 : Int) ^ (8 * 1) = 256 := by decide
  have p2 : (2 : Int) ^ (8 * 2) = 65536 := by decide
  have p3 : (2 : Int) ^ (8 * 3) = 16777216 := by decide
  rw [p0, p1, p2, p3]
  omega
theorem un32_inj (l r : List (BitVec 8)) (hl : l.length = 4) (hr : r.length = 4) (e : un32 l = un32 r) : l = r := by
  match l, hl, r, hr with
  | [a, b, c, d], _, [x, y, z, t], _ =>
    have e : Bits32.b a + 256 * Bits32.b b + 65536 * Bits32.b c + 16777216 * Bits32.b d = Bits32.b x + 256 * Bits32.b y + 65536 * Bits32.b z + 16777216 * Bits32.b t := e
    have h1 := Bits32.b_lo a; have h2 := Bits32.b_lo b; have h3 := Bits32.b_lo c; have h4 := Bits32.b_lo d
    have h5 := Bits32.b_lo x; have h6 := Bits32.b_lo y; have h7 := Bits32.b_lo z; have h8 := Bits32.b_lo t
    have g1 := Bits32.b_hi a; have g2 := Bits32.b_hi b; have g3 := Bits32.b_hi c; have g4 := Bits32.b_hi d
    have g5 := Bits32.b_hi x; have g6 := Bits32.b_hi y; have g7 := Bits32.b_hi z; have g8 := Bits32.b_hi t
    have inj : ∀ p q : BitVec 8, Bits32.b p = Bits32.b q → p = q := by
      intro p q h
      unfold Bits32.b at h
      apply BitVec.eq_of_toNat_eq; omega
    rw [inj a x (by omega), inj b y (by omega), inj c z (by omega), inj d t (by omega)]
/-- x written over l from place off on. -/
def splice (l : List (BitVec 8)) (off : Nat) (x : List (BitVec 8)) : List (BitVec 8) := l.take off ++ x ++ l.drop (off + x.length)
theorem splice_length (l : List (BitVec 8)) (off : Nat) (x : List (BitVec 8)) (h : off + x.length ≤ l.length) : (splice l off x).length = l.length := by
  unfold splice; simp; omega
theorem splice_nil (l : List (BitVec 8)) (off : Nat) (h : off ≤ l.length) : splice l off [] = l := by
  unfold splice; simp
theorem splice_step (l : List (BitVec 8)) (off i : Nat) (x : List (BitVec 8)) (y : BitVec 8) (hx : x.length = i) (h : off + i < l.length) :
    (splice l off x).set (off + i) y = splice l off (x ++ [y]) := by
  subst hx
  unfold splice
  have h1 : (l.take off ++ x).length = off + x.length := by simp; omega
  rw [List.set_append_right _ _ (by omega), h1, Nat.sub_self, List.length_append, List.length_singleton, ← Nat.add_assoc]
  have h2 : l.drop (off + x.length) = l[off + x.length] :: l.drop (off + x.length + 1) := List.drop_eq_getElem_cons h
  rw [h2, List.set_cons_zero, List.append_assoc, List.append_assoc, List.append_assoc]
  rfl
theorem splice_at (a z x : List (BitVec 8)) (hx : x.length ≤ z.length) : splice (a ++ z) a.length x = a ++ x ++ z.drop x.length := by
  unfold splice
  rw [List.take_left', List.drop_append, List.drop_of_length_le (by omega), List.nil_append, Nat.add_sub_cancel_left]
  rfl
/-- the first k fields as bytes. -/
def flds (m : M6) : Nat → List (BitVec 8)
  | 0 => []
  | k + 1 => flds m k ++ le32 (fld m k)
theorem flds_length (m : M6) : ∀ k, (flds m k).length = 4 * k
  | 0 => rfl
  | k + 1 => by simp only [flds, List.length_append, flds_length m k, le32_length]; omega
/-- the record without its own sum. -/
def body (m : M6) (d : List (BitVec 8)) : List (BitVec 8) := flds m 6 ++ le32 (Bits32.u (crc d))
/-- the record. -/
def rec32 (m : M6) (d : List (BitVec 8)) : List (BitVec 8) := body m d ++ le32 (Bits32.u (crc (body m d)))
theorem body_length (m : M6) (d : List (BitVec 8)) : (body m d).length = 28 := by
  unfold body; rw [List.length_append, flds_length, le32_length]
theorem rec32_length (m : M6) (d : List (BitVec 8)) : (rec32 m d).length = 32 := by
  unfold rec32; rw [List.length_append, body_length, le32_length]
/-- what a record's bytes say. -/
def parse (l : List (BitVec 8)) : M6 := ⟨un32 l, un32 (l.drop 4), un32 (l.drop 8), un32 (l.drop 12), un32 (l.drop 16), un32 (l.drop 20)⟩
theorem fld_parse (l : List (BitVec 8)) : ∀ i, i < 6 → fld (parse l) i = un32 (l.drop (4 * i)) := by
  intro i hi
  rcases (by omega : i = 0 ∨ i = 1 ∨ i = 2 ∨ i = 3 ∨ i = 4 ∨ i = 5) with rfl | rfl | rfl | rfl | rfl | rfl <;> rfl
/-- do these bytes hold a record of d? -/
def Good (l d : List (BitVec 8)) : Prop := l.length = 32 ∧ un32 (l.drop 28) = Bits32.u (crc (l.take 28)) ∧ un32 (l.drop 24) = Bits32.u (crc d) ∧ May (parse l)
instance (l d : List (BitVec 8)) : Decidable (Good l d) := by unfold Good; exact inferInstance
theorem drop_flds (m : M6) (r : List (BitVec 8)) : ∀ (k i : Nat), i < k → (flds m k ++ r).drop (4 * i) = le32 (fld m i) ++ ((flds m k ++ r).drop (4 * i + 4)) := by
  intro k
  induction k generalizing r with
  | zero => intro i hi; omega
  | succ k ih =>
    intro i hi
    simp only [flds]
    rw [List.append_assoc]
    by_cases h : i = k
    · subst h
      have hl := flds_length m i
      rw [List.drop_append, List.drop_of_length_le (by omega), hl, Nat.sub_self, List.nil_append, List.drop_zero, List.drop_append, List.drop_of_length_le (by omega), hl, List.nil_append, Nat.add_sub_cancel_left]
      rw [List.drop_append, List.drop_of_length_le (by rw [le32_length]; omega), le32_length, List.nil_append, Nat.sub_self, List.drop_zero]
    · exact ih (le32 (fld m k) ++ r) i (by omega)
theorem may_range {m : M6} (h : May m) (i : Nat) (hi : i < 6) : 0 ≤ fld m i ∧ fld m i < 4294967296 := by
  have := h.1 i hi; omega
theorem parse_rec (m : M6) (h : May m) (d : List (BitVec 8)) : parse (rec32 m d) = m := by
  have key : ∀ i, i < 6 → un32 ((rec32 m d).drop (4 * i)) = fld m i := by
    intro i hi
    have : rec32 m d = flds m 6 ++ (le32 (Bits32.u (crc d)) ++ le32 (Bits32.u (crc (body m d)))) := by unfold rec32 body; rw [List.append_assoc]
    rw [this, drop_flds m _ 6 i hi]
    have hr := may_range h i hi
    exact un32_le32 _ hr.1 hr.2 _
  have k0 := key 0 (by omega); have k1 := key 1 (by omega); have k2 := key 2 (by omega); have k3 := key 3 (by omega); have k4 := key 4 (by omega); have k5 := key 5 (by omega)
  unfold parse
  cases m
  simp only [fld] at *
  simp only [Nat.mul_zero, List.drop_zero, Nat.mul_one] at k0 k1 k2 k3 k4 k5
  rw [k0, k1, k2, k3, k4, k5]
theorem rec_take (m : M6) (d : List (BitVec 8)) : (rec32 m d).take 28 = body m d := by
  unfold rec32; rw [List.take_left' (body_length m d)]
theorem rec_own (m : M6) (d : List (BitVec 8)) : un32 ((rec32 m d).drop 28) = Bits32.u (crc (body m d)) := by
  unfold rec32
  rw [List.drop_left' (body_length m d)]
  have := un32_le32 (Bits32.u (crc (body m d))) (Bits32.u_lo _) (Bits32.u_hi _) []
  rwa [List.append_nil] at this
theorem rec_sum (m : M6) (d : List (BitVec 8)) : un32 ((rec32 m d).drop 24) = Bits32.u (crc d) := by
  have : rec32 m d = flds m 6 ++ (le32 (Bits32.u (crc d)) ++ le32 (Bits32.u (crc (body m d)))) := by unfold rec32 body; rw [List.append_assoc]
  rw [this, List.drop_left' (flds_length m 6)]
  exact un32_le32 _ (Bits32.u_lo _) (Bits32.u_hi _) _
theorem rec_good (m : M6) (h : May m) (d : List (BitVec 8)) : Good (rec32 m d) d :=
  ⟨rec32_length m d, by rw [rec_take]; exact rec_own m d, rec_sum m d, by rw [parse_rec m h]; exact h⟩
end Go.Proofs.YtfcmhlmllcpkmaaDoor.Meta
