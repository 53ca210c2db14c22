/- A table's All: the collecting. By the verifier of shale. -/
import Derived.Test.YtpbckjagiebmjaaDoorTbColl
namespace Go.Proofs.YtpbckjagiebmjaaDoor.Tb
open Go Go.RowKit Go.Maps Go.Sort
set_option linter.unusedVariables false
set_option linter.unusedSimpArgs false
set_option maxRecDepth 100000 in
set_option maxHeartbeats 2000000 in
theorem all_coll {w : World} {base tb mb ob B P cO : Nat} {kb : Nat → Nat} {kf : Nat → Nat → Int} {m : Int → Option Sl} {cnt nb : Nat} (T : TabAt w base tb mb ob B P cO kb kf m cnt nb) (hc : cnt ≤ 1000)
    (hS : ∀ (wr : World) (v : Value) (L : List Sl), wr.ownsRow w.heap.size 47 9 v L.length (scells L) → L.length ≤ 1000 → Calls Tryd.prog 43 #[v, .func (.func 34) #[] #[]] wr (SortP w.heap.size v L Sl.k wr)) :
    Calls Tryd.prog 31 #[.pointer (some ⟨tb, 0, none⟩), .func (.func 34) #[] #[], .func (.func 35) #[] #[]] w (SlotsP w m (fun _ => true) Sl.k) := by
  obtain ⟨i0, hi, hz0, hz1, hz2⟩ := infoS
  have HT := Lib.hid T
  obtain ⟨k0, _, _⟩ := T.cells
  obtain ⟨D, hown, hsz, hD⟩ := T.map
  have HH : Hid (∀ k s, m k = some s → s.k = k ∧ (Lit.int .i64 k).wf = true) := fun k s hs => ⟨(HT.out.here k s hs).1, wf_key (HT.out.here k s hs).2.1 (HT.out.here k s hs).2.2.1⟩
  have HD := Lib.hid hD
  have HC := Lib.hid hc
  have HSO := Lib.hid hS
  clear T hD hc hS
  go_enter Tryd.func31, Tryd.ntmps31
  go_wp2_with (first
    | (at_range; refine wpList_range_own _ rfl _ 69 rfl 3 47 keyI mapU slR mb nb D rfl hown ?_; intro w0 hrg0 hg0 hs0)
    | go_in)
  go_frame
  have HS : Hid (SrtI w m (fun _ => true) cnt (.slice none 0 0) (Maps.has D) (Maps.size D) [] w0) := by
    refine ⟨World.ownsRow_nil _ _ _ _, Coll.start (fun k s hs => (HH.out k s hs).2) HD.out, by rw [hsz]; simp, ⟨hg0.os, hg0.tape, hg0.output, hg0.size, fun k hk => hg0.block k hk (by simp)⟩⟩
  clear hg0 hs0 hown
  obtain ⟨rb, hrb⟩ : ∃ rb, rb = w.heap.size := ⟨_, rfl⟩
  rw [← hrb] at hrg0 ⊢
  have HRB := Lib.hid hrb
  clear hrb
  go_loopw [7] (fun s7 wr => ∃ (left : Lit → Bool) (cn : Nat) (L : List Sl), wr.ranges Tryd.prog 3 slR mb rb nb D left cn ∧ Hid (SrtI w m (fun _ => true) cnt s7 left cn L wr))
    (fun _ wr => wr.rangeLeft mb rb)
  case atStart => exact ⟨_, _, [], hrg0, HS⟩
  case round =>
    clear HS hrg0
    obtain ⟨left, cn, L, hrg, HX⟩ := hrel
    go_wp2_with (first
      | (at_next; refine wpList_next_ranges _ rfl _ rfl 3 keyI slR (Value.int .i64) slV keyInv (fun v y h => slR_some h) mb rb nb D left cn rfl hrg ?_ ?_)
      | go_in)
    · intro hc0 hl0
      go_wp2_with fail
      refine (HSO.out wr u7 L HX.out.1 (by have := HX.out.2.2.1; have := HC.out; omega)).mono ?_
      rintro e w' hp
      have hF := HX.out.fin HC.out hl0 hp
      obtain ⟨rfl, _⟩ := hp
      have HF := Lib.hid hF
      clear hF
      go_wp2_with fail
      go_ret
      exact HF.out
    · intro x c kl yd yp w1 cnt1 hkey hlk hv hat hrg1 hlt hg1 hs1 hen
      obtain ⟨x', ex, rfl, hwx⟩ := Maps.keyOf_int_inv Tryd.underlying3 hkey
      cases ex
      rw [slR_mk] at hv
      cases hv
      have hmx : m x = some c := by
        rcases HD.out x hwx with ⟨_, e⟩ | ⟨s, e1, _, e3⟩
        · have h1 := hat (.lit (.bool true))
          rw [Maps.atKey_of_not_has e] at h1
          cases h1
        · rw [e1, slD_inj ((e3 .nil).symm.trans (hat .nil))]
      have hne := row_ne_iter HX.out.1 hrg
      have HX1 : Hid (w1.ownsRow w.heap.size 47 9 u7 L.length (scells L) ∧ Below w.heap.size w w1 ∧ L.length + cnt1 < cnt ∧ some rb ≠ u7.ownBlock ∧ some mb ≠ u7.ownBlock ∧ L.length < 1000) := by
        obtain ⟨h1, h2, h3, h4⟩ := HX.out
        refine ⟨h1.kept hg1 (.inr (Ne.symm hne)), below_grown h4 hg1 fun k hk => by cases hk; rw [HRB.out]; exact Nat.le_refl _, by omega, hne, row_ne_low h1 HT.out.map.lt, by have := HC.out; omega⟩
      have HCo : Hid (Coll m (fun _ => true) (fun z => left z && !z.sameKey (kL x)) (L ++ [c])) := HX.out.2.1.step (fun k s hs => (HH.out k s hs).1) hmx hlk
      clear hkey hlk hat hmx hne HX hs1 hwx
      go_upto_region 5 with (fail)
      generalize hw : w1.alloc (.cells #[.int .i64 c.k, .int .i64 c.b, .int .i64 c.p, .int .i64 c.m0, .int .i64 c.m1, .int .i64 c.m2, .int .i64 c.m3, .int .i64 c.m4, .int .i64 c.m5] 47 (0, 0)) = w2
      obtain ⟨J2, b2⟩ := newSl w1 w2 c hw
      clear hw
      obtain ⟨zb, hzb⟩ : ∃ zb, zb = w1.heap.size := ⟨_, rfl⟩
      rw [← hzb] at J2 ⊢
      clear hzb hen
      obtain ⟨z0, z1, z2, z3, z4, z5, z6, z7, z8⟩ := sl_cells9 (s := c) J2
      go_wp2_with fail
      refine (wantAll c w2).mono ?_
      rintro e w3 ⟨rfl, b3⟩
      have J3 := (b3.block zb (lt_of_block J2)).trans J2
      have b13 := b2.trans (b3.mono b2.size)
      clear z0 z1 z2 z3 z4 z5 z6 z7 z8 b2 b3 J2
      obtain ⟨z0, z1, z2, z3, z4, z5, z6, z7, z8⟩ := sl_cells9 (s := c) J3
      have HRo : Hid ((w3.alloc (.cells #[.int .i64 c.k, .int .i64 c.b, .int .i64 c.p, .int .i64 c.m0, .int .i64 c.m1, .int .i64 c.m2, .int .i64 c.m3, .int .i64 c.m4, .int .i64 c.m5] 47 (0, 0))).ownsRow w.heap.size 47 9 u7 L.length (scells L)) := World.ownsRow.alloc (HX1.out.1.kept (grown_below b13 none) (by cases h : u7.ownBlock <;> simp)) _
      have HNW : Hid (∀ j u, (slC c)[j]? = some u → ((w3.alloc (.cells #[.int .i64 c.k, .int .i64 c.b, .int .i64 c.p, .int .i64 c.m0, .int .i64 c.m1, .int .i64 c.m2, .int .i64 c.m3, .int .i64 c.m4, .int .i64 c.m5] 47 (0, 0)))).cell? ((⟨w3.heap.size, 0, none⟩ : Addr).add j) = some u) := World.news_of_block (cs := #[.int .i64 c.k, .int .i64 c.b, .int .i64 c.p, .int .i64 c.m0, .int .i64 c.m1, .int .i64 c.m2, .int .i64 c.m3, .int .i64 c.m4, .int .i64 c.m5]) (fr := (0, 0)) (t := 47) (heap_alloc_new w3 _)
      have HON : Hid (∀ u ∈ slC c, u.oneCell' = true) := by
        intro u hu
        simp only [List.mem_cons, List.not_mem_nil, or_false] at hu
        rcases hu with rfl | rfl | rfl | rfl | rfl | rfl | rfl | rfl | rfl <;> rfl
      have HG3 : Hid (w1.grownBy (w3.alloc (.cells #[.int .i64 c.k, .int .i64 c.b, .int .i64 c.p, .int .i64 c.m0, .int .i64 c.m1, .int .i64 c.m2, .int .i64 c.m3, .int .i64 c.m4, .int .i64 c.m5] 47 (0, 0))) none) := grown_below (b13.trans ((Below.refl _ _).alloc b13.size _)) none
      have hL1 := HX1.out.2.2.2.2.2
      have hws : w.heap.size ≤ (w3.alloc (.cells #[.int .i64 c.k, .int .i64 c.b, .int .i64 c.p, .int .i64 c.m0, .int .i64 c.m1, .int .i64 c.m2, .int .i64 c.m3, .int .i64 c.m4, .int .i64 c.m5] 47 (0, 0))).heap.size := Nat.le_trans HX1.out.2.1.size HG3.out.size
      have HWS := Lib.hid hws
      clear J3 b13 hws
      go_wp2_with (first
        | (at_builtin; refine wpList_append_own_at _ rfl _ _ 55 rfl w.heap.size 47 i0 (slV zSl) 9 72 Tryd.underlying55 hi hz0 hz1 hz2 rfl (by decide) u7 L.length (scells L) rfl HRo.out ⟨w3.heap.size, 0, none⟩ 1 1 (slC c) rfl rfl HNW.out HON.out (by unfold maxLen; omega) (by omega) HWS.out ?_; intro v' w5 hown hgrow hnil hat)
        | go_in)
      have hrg2 := (hrg1.kept HG3.out (by simp) (by simp)).kept hgrow HX1.out.2.2.2.2.1 HX1.out.2.2.2.1
      go_roundw
      case rel =>
        refine ⟨_, cnt1, L ++ [c], hrg2, ?_⟩
        show SrtI _ _ _ _ _ _ _ _ _
        refine ⟨by rw [scells_snoc, List.length_append]; exact hown, HCo.out, by have := HX1.out.2.2.1; simp; omega, below_grown (below_grown HX1.out.2.1 HG3.out fun k hk => by cases hk) hgrow fun k hk => (HRo.out.lt k hk).1⟩
      case measure => rw [hrg2.left_eq, hrg.left_eq]; exact hlt
end Go.Proofs.YtpbckjagiebmjaaDoor.Tb
