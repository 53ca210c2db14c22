/- The walk over package meta's Bytes: a record as bytes. By the verifier of shale. -/
import Derived.Test.YtfcmhlmllcpkmaaDoorMetaMay
namespace Go.Proofs.YtfcmhlmllcpkmaaDoor.Meta
open Go Go.RowKit Crc
set_option linter.unusedVariables false
/-- what is laid behind k fields. -/
def lay (m : M6) (k : Nat) : List (BitVec 8) := flds m k ++ List.replicate (32 - 4 * k) 0
theorem lay_length (m : M6) (k : Nat) (hk : k ≤ 6) : (lay m k).length = 32 := by
  unfold lay; rw [List.length_append, flds_length, List.length_replicate]; omega
theorem lay_zero (m : M6) : lay m 0 = List.replicate 32 0 := rfl
theorem lay_step (m : M6) (k : Nat) (hk : k < 6) : splice (lay m k) (4 * k) (le32 (fld m k)) = lay m (k + 1) := by
  unfold lay
  have := splice_at (flds m k) (List.replicate (32 - 4 * k) 0) (le32 (fld m k)) (by rw [le32_length, List.length_replicate]; omega)
  rw [flds_length] at this
  rw [this, List.drop_replicate, le32_length, show 32 - 4 * k - 4 = 32 - 4 * (k + 1) by omega]; rfl
theorem lay_sum (m : M6) (d : List (BitVec 8)) : splice (lay m 6) 24 (le32 (Bits32.u (crc d))) = body m d ++ List.replicate 4 0 := by
  unfold lay body
  have := splice_at (flds m 6) (List.replicate (32 - 4 * 6) 0) (le32 (Bits32.u (crc d))) (by rw [le32_length, List.length_replicate]; omega)
  rw [flds_length] at this
  rw [this]; rfl
theorem lay_own (m : M6) (d : List (BitVec 8)) : splice (body m d ++ List.replicate 4 0) 28 (le32 (Bits32.u (crc (body m d)))) = rec32 m d := by
  have := splice_at (body m d) (List.replicate 4 0) (le32 (Bits32.u (crc (body m d)))) (by rw [le32_length, List.length_replicate]; omega)
  rw [body_length] at this
  rw [this]
  unfold rec32
  rw [le32_length]
  simp
theorem body_take (m : M6) (d : List (BitVec 8)) : (body m d ++ List.replicate 4 0).take 28 = body m d := List.take_left' (body_length m d)
/-- the answer where it may be a record: its bytes, in new memory. -/
def BytesAt (m : M6) (d : List (BitVec 8)) (w : World) (e : Ending) (w' : World) : Prop := ∃ g, e = .returned (.tuple #[.slice (some ⟨g, 0, none⟩) 32 32, .nilIface]) ∧ Blk8 w' g (rec32 m d) ∧ w.heap.size ≤ g ∧ Below w.heap.size w w'
set_option maxHeartbeats 400000 in
theorem bytes_no (m : M6) (h : ¬ May m) (v : Value) (w : World) (p : Addr) (E : ErrAt w 0 p) :
    Calls Tryd.prog 9 #[metaV m, v] w fun e w' => e = .returned (.tuple #[.slice none 0 0, errOf p]) ∧ Below w.heap.size w w' := by
  have hd : decide (May m) = false := decide_eq_false h
  have b0 : Below w.heap.size w (w.alloc (.cells #[.int .i64 (fld m 0), .int .i64 (fld m 1), .int .i64 (fld m 2), .int .i64 (fld m 3), .int .i64 (fld m 4), .int .i64 (fld m 5)] 23)) := (Below.refl _ _).alloc (Nat.le_refl _) _
  have HM := Lib.hid (fun w => may_any m w)
  have HD := Lib.hid hd
  clear h hd
  go_enter Tryd.func9, Tryd.ntmps9
  go_wp2_with fail
  generalize w.alloc (.cells #[.int .i64 (fld m 0), .int .i64 (fld m 1), .int .i64 (fld m 2), .int .i64 (fld m 3), .int .i64 (fld m 4), .int .i64 (fld m 5)] 23) = w0 at b0 ⊢
  refine (HM.out w0).mono ?_
  rintro e w1 ⟨rfl, b1⟩
  rw [HD.out]
  have b2 := b0.trans (b1.mono b0.size)
  have c1 := (E.below b2).1
  unfold Sent at c1
  go_wp2_with fail
  go_quiet (fail)
  go_wp2_with fail
  go_ret2
  exact ⟨rfl, b2.trans ((Drawn.mk _ _).below _)⟩
/-- what is known of a world in which a record's bytes are being laid: block g holds them, block r the fields. -/
structure Laid (w1 w : World) (g r : Nat) (m : M6) : Prop where
  blk : Blk8 w g (lay m 0)
  own : RecAt w r m 47
  ne : g ≠ r
  hg : w1.heap.size ≤ g
  hr : w1.heap.size ≤ r
  below : Below w1.heap.size w1 w
theorem laid_one (w1 : World) (m : M6) : Laid w1 ((w1.alloc (obj8 (lay m 0))).alloc (Obj.cells #[.int .i64 (fld m 0), .int .i64 (fld m 1), .int .i64 (fld m 2), .int .i64 (fld m 3), .int .i64 (fld m 4), .int .i64 (fld m 5)] 47)).drew w1.heap.size (w1.heap.size + 1) m where
  blk := (Below.heap_alloc (w1.alloc (obj8 (lay m 0))) _ _ (by simp)).trans (heap_alloc_new w1 _)
  own := by
    have := heap_alloc_new (w1.alloc (obj8 (lay m 0))) (Obj.cells #[.int .i64 (fld m 0), .int .i64 (fld m 1), .int .i64 (fld m 2), .int .i64 (fld m 3), .int .i64 (fld m 4), .int .i64 (fld m 5)] 47)
    rw [World.size_alloc] at this
    exact this
  ne := by omega
  hg := by omega
  hr := by omega
  below := (((Below.refl _ _).alloc (Nat.le_refl _) _).alloc (by simp) _).drew
theorem laid_two (w1 : World) (m : M6) : Laid w1 ((w1.alloc (Obj.cells #[.int .i64 (fld m 0), .int .i64 (fld m 1), .int .i64 (fld m 2), .int .i64 (fld m 3), .int .i64 (fld m 4), .int .i64 (fld m 5)] 47)).alloc (obj8 (lay m 0))).drew (w1.heap.size + 1) w1.heap.size m where
  own := (Below.heap_alloc (w1.alloc (Obj.cells #[.int .i64 (fld m 0), .int .i64 (fld m 1), .int .i64 (fld m 2), .int .i64 (fld m 3), .int .i64 (fld m 4), .int .i64 (fld m 5)] 47)) _ _ (by simp)).trans (heap_alloc_new w1 _)
  blk := by
    have := heap_alloc_new (w1.alloc (Obj.cells #[.int .i64 (fld m 0), .int .i64 (fld m 1), .int .i64 (fld m 2), .int .i64 (fld m 3), .int .i64 (fld m 4), .int .i64 (fld m 5)] 47)) (obj8 (lay m 0))
    rw [World.size_alloc] at this
    exact this
  ne := by omega
  hg := by omega
  hr := by omega
  below := (((Below.refl _ _).alloc (Nat.le_refl _) _).alloc (by simp) _).drew
theorem cell_drew {w : World} {p : Addr} {v : Option Value} (h : w.cell? p = v) : w.drew.cell? p = v := h
set_option maxRecDepth 100000 in
set_option maxHeartbeats 4000000 in
theorem bytes_yes (m : M6) (h : May m) (d : List (BitVec 8)) (v : Value) (w : World) (ht : Tab w) (hv : Arg8 w v d) :
    Calls Tryd.prog 9 #[metaV m, v] w (BytesAt m d w) := by
  have hd : decide (May m) = true := decide_eq_true h
  have b0 : Below w.heap.size w (w.alloc (.cells #[.int .i64 (fld m 0), .int .i64 (fld m 1), .int .i64 (fld m 2), .int .i64 (fld m 3), .int .i64 (fld m 4), .int .i64 (fld m 5)] 23)) := (Below.refl _ _).alloc (Nat.le_refl _) _
  have r0 : RecAt (w.alloc (.cells #[.int .i64 (fld m 0), .int .i64 (fld m 1), .int .i64 (fld m 2), .int .i64 (fld m 3), .int .i64 (fld m 4), .int .i64 (fld m 5)] 23)) w.heap.size m 23 := heap_alloc_new w _
  have HM := Lib.hid (fun w => may_any m w)
  have HD := Lib.hid hd
  clear h hd
  go_enter Tryd.func9, Tryd.ntmps9
  go_wp2_with fail
  generalize w.alloc (.cells #[.int .i64 (fld m 0), .int .i64 (fld m 1), .int .i64 (fld m 2), .int .i64 (fld m 3), .int .i64 (fld m 4), .int .i64 (fld m 5)] 23) = w0 at b0 r0 ⊢
  refine (HM.out w0).mono ?_
  rintro e w1 ⟨rfl, b1⟩
  rw [HD.out]
  have r1 := r0.below b1 r0.lt
  have B := b0.trans (b1.mono b0.size)
  have c0 := r1.cell 0 (by omega); have c1 := r1.cell 1 (by omega); have c2 := r1.cell 2 (by omega); have c3 := r1.cell 3 (by omega); have c4 := r1.cell 4 (by omega); have c5 := r1.cell 5 (by omega)
  have hmk : ∀ w, (Instr.makeSlice 24 (.int .i64 32) (.int .i64 32)).run Tryd.prog w = .ok (.slice (some ⟨w.heap.size, 0, none⟩) 32 32) (w.alloc (obj8 (lay m 0))) := fun w => by rw [lay_zero]; exact made8 w 32 (by omega)
  have rl := r1.lt
  go_wp2_with fail
  go_region
  have L := laid_one w1 m
  generalize ((w1.alloc (obj8 (lay m 0))).alloc (Obj.cells #[.int .i64 (fld m 0), .int .i64 (fld m 1), .int .i64 (fld m 2), .int .i64 (fld m 3), .int .i64 (fld m 4), .int .i64 (fld m 5)] 47)).drew = w2 at L ⊢
  generalize w1.heap.size + 1 = r at L ⊢
  generalize hsz : w1.heap.size = g at L ⊢
  rotate_left
  have L := laid_two w1 m
  generalize ((w1.alloc (Obj.cells #[.int .i64 (fld m 0), .int .i64 (fld m 1), .int .i64 (fld m 2), .int .i64 (fld m 3), .int .i64 (fld m 4), .int .i64 (fld m 5)] 47)).alloc (obj8 (lay m 0))).drew = w2 at L ⊢
  generalize w1.heap.size + 1 = g at L ⊢
  generalize hsz : w1.heap.size = r at L ⊢
  all_goals
    clear hsz hmk c0 c1 c2 c3 c4 c5
    have gW : w.heap.size ≤ g := Nat.le_trans B.size L.hg
    go_wp2_with fail
    refine (fields_any w2).mono ?_
    rintro e w3 ⟨fb, rfl, fb1, fb2, fc, b3⟩
    have h3 : Blk8 w3 g (lay m 0) := (b3.block g L.blk.lt).trans L.blk
    have h4 := L.own.below b3 L.own.lt
    have hne := L.ne
    have hfg : fb ≠ g := by have := L.blk.lt; omega
    have B3 := (B.trans (L.below.mono B.size)).trans (b3.mono (Nat.le_trans B.size L.below.size))
    have HF := Lib.hid fc
    clear fc fb1 fb2 b3 L B
    go_wp2_with fail
    go_loopg [18] 6 (fun gh s18 wx => ∃ k : Nat, gh = 6 - k ∧ k ≤ 6 ∧ s18 = .int .i64 (k : Int) ∧ Blk8 wx g (lay m k) ∧ Only g w3 wx)
    case atStart => exact ⟨0, rfl, by omega, rfl, h3, Only.refl _ _⟩
    case round =>
      obtain ⟨k, hg, hk, rfl, hB, hO⟩ := hrel
      have HG := Lib.hid hg
      clear hg h3
      by_cases hlt : k < 6
      · have c0 := (hO.cell (p := ⟨fb, k, none⟩) hfg).trans (HF.out k hlt)
        have c1 := (hO.cell (p := ⟨r, k, none⟩) (Ne.symm hne)).trans (h4.cell k hlt)
        obtain ⟨g2, hg2⟩ : ∃ g2, g2 = 6 - (k + 1) := ⟨_, rfl⟩
        have HG2 := Lib.hid hg2
        clear hg2
        have HS := Lib.hid (lay_step m k hlt)
        have hl := lay_length m k hk
        rcases (by omega : k = 0 ∨ k = 1 ∨ k = 2 ∨ k = 3 ∨ k = 4 ∨ k = 5) with rfl | rfl | rfl | rfl | rfl | rfl
        all_goals
          unfold fnOf at c0
          go_wp2_with fail
        · have q : IntKind.i64.wrap 0 = 0 := by decide
          go_region_held3 (fun w' => w'.cell? ⟨r, 0, none⟩ = some (.int .i64 (fld m 0))) (first | assumption | exact cell_drew (by assumption))
            (first
              | (go_at_call 31; refine Calls.mono (kind_any _ _) ?_; rintro e w' ⟨rfl, rfl⟩)
              | (go_at_call 24; refine Calls.mono (put_any _ (lay m 0) g _ _ _ _ hB (by omega) (by omega) (by decide)) ?_; rintro e w' ⟨rfl, hB2, hO2⟩; have hS := (hO2.cell (p := ⟨r, 0, none⟩) (Ne.symm hne)).trans c1))
          go_wp2_with fail
          go_roundg g2
          case measure => have := HG.out; have := HG2.out; omega
          case rel => exact ⟨_, HG2.out, by omega, rfl, by rw [← HS.out]; exact hB2, hO.trans ((Only.refl _ _).drew.trans hO2)⟩
        · have q : IntKind.i64.wrap 4 = 4 := by decide
          go_region_held3 (fun w' => w'.cell? ⟨r, 1, none⟩ = some (.int .i64 (fld m 1))) (first | assumption | exact cell_drew (by assumption))
            (first
              | (go_at_call 32; refine Calls.mono (key_any _ _) ?_; rintro e w' ⟨rfl, rfl⟩)
              | (go_at_call 24; refine Calls.mono (put_any _ (lay m 1) g _ _ _ _ hB (by omega) (by omega) (by decide)) ?_; rintro e w' ⟨rfl, hB2, hO2⟩; have hS := (hO2.cell (p := ⟨r, 1, none⟩) (Ne.symm hne)).trans c1))
          go_wp2_with fail
          go_roundg g2
          case measure => have := HG.out; have := HG2.out; omega
          case rel => exact ⟨_, HG2.out, by omega, rfl, by rw [← HS.out]; exact hB2, hO.trans ((Only.refl _ _).drew.trans hO2)⟩
        · have q : IntKind.i64.wrap 8 = 8 := by decide
          go_region_held3 (fun w' => w'.cell? ⟨r, 2, none⟩ = some (.int .i64 (fld m 2))) (first | assumption | exact cell_drew (by assumption))
            (first
              | (go_at_call 33; refine Calls.mono (seq_any _ _) ?_; rintro e w' ⟨rfl, rfl⟩)
              | (go_at_call 24; refine Calls.mono (put_any _ (lay m 2) g _ _ _ _ hB (by omega) (by omega) (by decide)) ?_; rintro e w' ⟨rfl, hB2, hO2⟩; have hS := (hO2.cell (p := ⟨r, 2, none⟩) (Ne.symm hne)).trans c1))
          go_wp2_with fail
          go_roundg g2
          case measure => have := HG.out; have := HG2.out; omega
          case rel => exact ⟨_, HG2.out, by omega, rfl, by rw [← HS.out]; exact hB2, hO.trans ((Only.refl _ _).drew.trans hO2)⟩
        · have q : IntKind.i64.wrap 12 = 12 := by decide
          go_region_held3 (fun w' => w'.cell? ⟨r, 3, none⟩ = some (.int .i64 (fld m 3))) (first | assumption | exact cell_drew (by assumption))
            (first
              | (go_at_call 34; refine Calls.mono (stamp_any _ _) ?_; rintro e w' ⟨rfl, rfl⟩)
              | (go_at_call 24; refine Calls.mono (put_any _ (lay m 3) g _ _ _ _ hB (by omega) (by omega) (by decide)) ?_; rintro e w' ⟨rfl, hB2, hO2⟩; have hS := (hO2.cell (p := ⟨r, 3, none⟩) (Ne.symm hne)).trans c1))
          go_wp2_with fail
          go_roundg g2
          case measure => have := HG.out; have := HG2.out; omega
          case rel => exact ⟨_, HG2.out, by omega, rfl, by rw [← HS.out]; exact hB2, hO.trans ((Only.refl _ _).drew.trans hO2)⟩
        · have q : IntKind.i64.wrap 16 = 16 := by decide
          go_region_held3 (fun w' => w'.cell? ⟨r, 4, none⟩ = some (.int .i64 (fld m 4))) (first | assumption | exact cell_drew (by assumption))
            (first
              | (go_at_call 35; refine Calls.mono (batch_any _ _) ?_; rintro e w' ⟨rfl, rfl⟩)
              | (go_at_call 24; refine Calls.mono (put_any _ (lay m 4) g _ _ _ _ hB (by omega) (by omega) (by decide)) ?_; rintro e w' ⟨rfl, hB2, hO2⟩; have hS := (hO2.cell (p := ⟨r, 4, none⟩) (Ne.symm hne)).trans c1))
          go_wp2_with fail
          go_roundg g2
          case measure => have := HG.out; have := HG2.out; omega
          case rel => exact ⟨_, HG2.out, by omega, rfl, by rw [← HS.out]; exact hB2, hO.trans ((Only.refl _ _).drew.trans hO2)⟩
        · have q : IntKind.i64.wrap 20 = 20 := by decide
          go_region_held3 (fun w' => w'.cell? ⟨r, 5, none⟩ = some (.int .i64 (fld m 5))) (first | assumption | exact cell_drew (by assumption))
            (first
              | (go_at_call 36; refine Calls.mono (floor_any _ _) ?_; rintro e w' ⟨rfl, rfl⟩)
              | (go_at_call 24; refine Calls.mono (put_any _ (lay m 5) g _ _ _ _ hB (by omega) (by omega) (by decide)) ?_; rintro e w' ⟨rfl, hB2, hO2⟩; have hS := (hO2.cell (p := ⟨r, 5, none⟩) (Ne.symm hne)).trans c1))
          go_wp2_with fail
          go_roundg g2
          case measure => have := HG.out; have := HG2.out; omega
          case rel => exact ⟨_, HG2.out, by omega, rfl, by rw [← HS.out]; exact hB2, hO.trans ((Only.refl _ _).drew.trans hO2)⟩
      · obtain rfl : k = 6 := by omega
        have q1 : IntKind.i64.wrap 24 = 24 := by decide
        have q2 : IntKind.i64.wrap 28 = 28 := by decide
        have b4 : Below w.heap.size w wr := B3.trans (hO.below gW)
        have HL1 := Lib.hid (lay_sum m d)
        have HL2 := Lib.hid (lay_own m d)
        have HL3 := Lib.hid (body_take m d)
        have l6 := lay_length m 6 (by omega)
        clear h4 HF HG HM HD
        go_wp2_with fail
        go_region_held3 (fun w' => Below w.heap.size w w') (first | assumption | exact Below.drew (by assumption))
          (first
            | (go_at_call 25; refine Calls.mono (of_any d v _ (ht.below (by assumption) ht.lt) (hv.since (Nat.le_refl _) (by assumption)).1 hv.2) ?_; rintro e w4 ⟨rfl, d1⟩; have hB1 : Blk8 w4 g (lay m 6) := (d1.block g hB.lt).trans hB; have b5 := b4.drew.trans (d1.mono b4.drew.size))
            | (go_at_call 24; refine Calls.mono (put_any _ (lay m 6) g _ _ _ _ hB1 (by omega) (by omega) (by decide)) ?_; rintro e w5 ⟨rfl, hB2, hO2⟩; have b6 := b5.trans (hO2.below gW)))
        have hB3 : Blk8 w5 g (body m d ++ List.replicate 4 0) := by rw [← HL1.out]; exact hB2
        have l7 : (body m d ++ List.replicate 4 (0 : BitVec 8)).length = 32 := by rw [List.length_append, body_length, List.length_replicate]
        have hT : Row8 w5 g 0 (body m d) := by have := hB3.row.take 28; rwa [HL3.out] at this
        have hI : Hid (IsBytes w5 (.slice (some ⟨g, 0, none⟩) 28 32) (body m d)) := .mk (body_length m d).symm hT hB3.lt
        have HLb := Lib.hid (show (body m d).length ≤ maxLen by rw [body_length]; decide)
        clear hT hB2 hB1 hB hO2 d1 b5 b4
        go_wp2_with fail
        go_region_held3 (fun w' => Below w.heap.size w w') (first | assumption | exact Below.drew (by assumption))
          (first
            | (go_at_call 25; refine Calls.mono (of_any (body m d) _ _ (ht.below (by assumption) ht.lt) hI.out HLb.out) ?_; rintro e w6 ⟨rfl, d2⟩; have hB4 : Blk8 w6 g (body m d ++ List.replicate 4 0) := (d2.block g hB3.lt).trans hB3; have b7 := b6.drew.trans (d2.mono b6.drew.size))
            | (go_at_call 24; refine Calls.mono (put_any _ (body m d ++ List.replicate 4 0) g _ _ _ _ hB4 (by omega) (by omega) (by decide)) ?_; rintro e w7 ⟨rfl, hB5, hO5⟩; have b8 := b7.trans (hO5.below gW)))
        go_wp2_with fail
        go_ret2
        exact ⟨g, rfl, by rw [← HL2.out]; exact hB5, gW, b8⟩
end Go.Proofs.YtfcmhlmllcpkmaaDoor.Meta
