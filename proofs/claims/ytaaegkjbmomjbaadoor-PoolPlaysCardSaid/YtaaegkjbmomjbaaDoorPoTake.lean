/- Package heap's Push, Pop and Remove over a queue. By the verifier of shale. -/
import Derived.Test.YtaaegkjbmomjbaaDoorPoPush
import Derived.Test.YtaaegkjbmomjbaaDoorHeapMath2
namespace Go.Proofs.YtaaegkjbmomjbaaDoor.Po
open Go Go.RowKit Hp
set_option linter.unusedVariables false
set_option linter.unusedSimpArgs false
theorem mPush (a : Addr) (w : World) (F : Nat) : (method (F + 1) 62 (.pointer (some a)) "Push").run Tryd.prog w = .ok (32, .pointer (some a)) w := by kernel_rfl
theorem mPop (a : Addr) (w : World) (F : Nat) : (method (F + 1) 62 (.pointer (some a)) "Pop").run Tryd.prog w = .ok (66, .pointer (some a)) w := by kernel_rfl
/-- a queue in a heap's order. -/
structure Heaped (w : World) (base qb : Nat) (ty : TypeId) (v : Value) (L : List It) : Prop where
  q : QAt w base qb ty v L
  h : HeapFrom L L.length 0
theorem Heaped.same {w w' : World} {base qb : Nat} {ty : TypeId} {v : Value} {L : List It} (h : Heaped w base qb ty v L) (o : ∀ k ∈ qbl qb v, w'.heap[k]? = w.heap[k]?) : Heaped w' base qb ty v L := ⟨h.q.same o, h.h⟩
theorem Heaped.below {w w' : World} {base qb : Nat} {ty : TypeId} {v : Value} {L : List It} (h : Heaped w base qb ty v L) (b : Below w.heap.size w w') : Heaped w' base qb ty v L := ⟨h.q.below b, h.h⟩
theorem only_tn {w w' : World} {g qb : Nat} (o : Only g w w') : Tn [qb, g] w w' [qb, g] := ⟨o.os, o.tape, o.output, by rw [o.size]; exact Nat.le_refl _, fun k _ hk => o.block k (by simp at hk; exact hk.2), fun _ h => .inl h⟩
def HPushPost (w : World) (base qb : Nat) (ty : TypeId) (v : Value) (L : List It) (x : It) (e : Ending) (w' : World) : Prop := ∃ v' m, e = .returned (.tuple #[]) ∧ Heaped w' base qb ty v' m ∧ List.Perm m (L ++ [x]) ∧ Tn (qbl qb v) w w' (qbl qb v')
set_option maxHeartbeats 1000000 in
theorem hpush_any {w : World} {base qb : Nat} {ty : TypeId} {v : Value} {L : List It} (Q : Heaped w base qb ty v L) (hL : L.length ≤ 1000) (x : It) :
    Calls Tryd.prog 24 #[.iface 62 (.pointer (some ⟨qb, 0, none⟩)), .iface 64 (itV x)] w (HPushPost w base qb ty v L x) := by
  have HQ := Lib.hid (And.intro Q hL)
  have hm := mPush ⟨qb, 0, none⟩ w
  have HP := Lib.hid (qpush_any Q.q hL (by have := Q.q.q0; have := Q.q.lt; omega) x)
  clear Q hL
  go_enter Tryd.func24, Tryd.ntmps24
  go_wp2_with fail
  refine HP.out.mono ?_
  rintro e w1 ⟨g, c, rfl, q1, t1⟩
  have H1 : Hid (HpAt w1 base qb ty g (L.length + 1) c (L ++ [x]) ∧ Tn (qbl qb v) w w1 (qbl qb (.slice (some ⟨g, 0, none⟩) (L.length + 1) c))) := ⟨⟨q1, by simp⟩, t1⟩
  have hm := mLen q1.cell.1
  obtain ⟨N, hN⟩ : ∃ N, N = L.length + 1 := ⟨_, rfl⟩
  rw [← hN] at hm
  have HN := Lib.hid hN
  have HLN := Lib.hid (qlen_any (some ⟨g, 0, none⟩) N c w1)
  have b0 : (N : Int) - 1 = (L.length : Int) := by omega
  have b1 : (N : Int) ≤ 1001 := by have := HQ.out.2; omega
  have b2 : (1 : Int) ≤ (N : Int) := by omega
  obtain ⟨n, hn⟩ : ∃ n, n = L.length := ⟨_, rfl⟩
  rw [← hn] at b0
  have HNN := Lib.hid hn
  clear q1 t1 HP hN hn
  go_wp2_with fail
  refine HLN.out.mono ?_
  rintro e w1' ⟨rfl, rfl⟩
  have HU : Hid (Calls Tryd.prog 36 #[.iface 62 (.pointer (some ⟨qb, 0, none⟩)), .int .i64 (n : Int)] w1 (UpPost w1 base qb ty g N c (L ++ [x]) (n + 1))) := by
    have h1 := H1.out.1
    rw [← HN.out] at h1
    refine up_any h1 (by rw [HN.out, HNN.out]; exact Nat.le_refl _) (by have := HQ.out.2; have := HN.out; omega) ?_
    exact push_pre (by rw [HNN.out]; exact HQ.out.1.h) HNN.out.symm x
  clear HLN hm
  go_wp2_with fail
  refine HU.out.mono ?_
  rintro e w2 ⟨m, rfl, u, q2, o2⟩
  have HF : Hid (HPushPost w base qb ty v L x (.returned (.tuple #[])) w2) := by
    refine ⟨.slice (some ⟨g, 0, none⟩) N c, m, rfl, ⟨q2.q, ?_⟩, u.perm, ?_⟩
    · have := u.perm.length_eq
      have h := u.heap
      rw [show m.length = n + 1 from by rw [this, HNN.out]; simp]
      exact h
    · have t := H1.out.2
      rw [← HN.out] at t
      exact t.trans (only_tn o2)
  clear u q2 o2 HU
  go_wp2_with fail
  go_end0
  exact HF.out
def HPopPost (w : World) (base qb : Nat) (ty : TypeId) (g c n : Nat) (L : List It) (x : It) (e : Ending) (w' : World) : Prop := ∃ m, e = .returned (.iface 64 (itV x)) ∧ Heaped w' base qb ty (.slice (some ⟨g, 0, none⟩) n c) m ∧ List.Perm (x :: m) L ∧ Tn [qb, g] w w' [qb, g]
theorem pop_fin {w w1 w2 : World} {base qb : Nat} {ty : TypeId} {g c n N : Nat} {L l2 : List It} {x : It} {e : Ending} (hN : N = n + 1) (hl : L.length = N) (t1 : Tn [qb, g] w w1 [qb, g]) (hp : List.Perm (x :: l2.take n) L) (hh : HeapFrom (l2.take n) n 0) (hx : l2[n]! = x) (P : PopPost w1 base qb ty g c n l2 e w2) : HPopPost w base qb ty g c n L x e w2 := by
  obtain ⟨p1, p2, p3⟩ := P
  have hlen : (l2.take n).length = n := by have := hp.length_eq; simp at this ⊢; omega
  exact ⟨l2.take n, by rw [p1, hx], ⟨p2, by rw [hlen]; exact hh⟩, hp, t1.trans p3⟩
set_option maxHeartbeats 1000000 in
theorem hpop_any {w : World} {base qb : Nat} {ty : TypeId} {g N c n : Nat} {L : List It} (H : HpAt w base qb ty g N c L) (hh : HeapFrom L L.length 0) (hn : N = n + 1) (hN : N ≤ 1000) :
    Calls Tryd.prog 29 #[.iface 62 (.pointer (some ⟨qb, 0, none⟩))] w (HPopPost w base qb ty g c n L (L[0]!)) := by
  obtain ⟨x, hx⟩ : ∃ x, x = L[0]! := ⟨_, rfl⟩
  rw [← hx]
  have HXX := Lib.hid hx
  clear hx
  have HH := Lib.hid (And.intro H (And.intro hh (And.intro hn hN)))
  have hm := mLen H.cell
  have HLN := Lib.hid (qlen_any (some ⟨g, 0, none⟩) N c w)
  have b0 : (N : Int) - 1 = (n : Int) := by omega
  have b1 : (N : Int) ≤ 1001 := by omega
  have b2 : (1 : Int) ≤ (N : Int) := by omega
  have HS := qswap H (i := 0) (j := n) (by omega) (by omega)
  rw [show ((0 : Nat) : Int) = 0 from rfl] at HS
  have hm2 := mSwap H.cell
  replace HS := Lib.hid HS
  clear H hh hn hN
  go_enter Tryd.func29, Tryd.ntmps29
  go_wp2_with fail
  refine HLN.out.mono ?_
  rintro e w1' ⟨rfl, rfl⟩
  go_wp2_with fail
  refine HS.out.mono ?_
  rintro e w1 ⟨rfl, h1, o1⟩
  have H1 := Lib.hid (And.intro h1 o1)
  have HD := down_any h1 (n := n) (lo := 0) (i0 := 0) (by have := HH.out.2.2.1; omega) (by have := HH.out.2.2.2; omega) (by
    have hl := HH.out.1.len
    have hhh := HH.out.2.1
    rw [hl, HH.out.2.2.1] at hhh
    exact pop_pre hhh (by rw [hl, HH.out.2.2.1])) (Nat.le_refl _) (by omega)
  rw [show ((0 : Nat) : Int) = 0 from rfl] at HD
  replace HD := Lib.hid HD
  clear h1 o1 hm hm2 HS HLN
  go_wp2_with fail
  refine HD.out.mono ?_
  rintro e w2 ⟨l2, r, rfl, d2, h2, o2⟩
  have H2 := Lib.hid (And.intro d2 (And.intro h2 (H1.out.2.trans o2)))
  have HP := Lib.hid (qpop_any h2 HH.out.2.2.1 HH.out.2.2.2)
  have hm := mPop ⟨qb, 0, none⟩ w2
  clear d2 h2 o2 HD
  go_wp2_with fail
  refine HP.out.mono ?_
  intro e w3 hp
  have hF : HPopPost w base qb ty g c n L x e w3 := by
    have hl := HH.out.1.len
    obtain ⟨p1, p2, p3⟩ := pop_end (by rw [hl, HH.out.2.2.1]) H2.out.1
    rw [← HXX.out] at p1 p2
    exact pop_fin HH.out.2.2.1 hl (only_tn H2.out.2.2) p2 p3 p1 hp
  clear hp
  have he : e = .returned (.iface 64 (itV x)) := by obtain ⟨_, h, _⟩ := hF; exact h
  subst he
  have HF := Lib.hid hF
  clear hF hm HP
  go_wp2_with fail
  go_ret
  exact HF.out
set_option maxHeartbeats 1000000 in
theorem hrem_any {w : World} {base qb : Nat} {ty : TypeId} {g N c n i : Nat} {L : List It} (H : HpAt w base qb ty g N c L) (hh : HeapFrom L L.length 0) (hn : N = n + 1) (hN : N ≤ 1000) (hi : i < N) :
    Calls Tryd.prog 28 #[.iface 62 (.pointer (some ⟨qb, 0, none⟩)), .int .i64 (i : Int)] w (HPopPost w base qb ty g c n L (L[i]!)) := by
  obtain ⟨x, hx⟩ : ∃ x, x = L[i]! := ⟨_, rfl⟩
  rw [← hx]
  have HXX := Lib.hid hx
  clear hx
  have HH := Lib.hid (And.intro H (And.intro hh (And.intro hn hN)))
  have HI := Lib.hid hi
  have hm := mLen H.cell
  have HLN := Lib.hid (qlen_any (some ⟨g, 0, none⟩) N c w)
  have b0 : (N : Int) - 1 = (n : Int) := by omega
  have b1 : (N : Int) ≤ 1001 := by omega
  have b2 : (1 : Int) ≤ (N : Int) := by omega
  by_cases e : i = n
  · have HP := Lib.hid (qpop_any H hn hN)
    have hm3 := mPop ⟨qb, 0, none⟩ w
    subst e
    clear H hh hn hN hi
    go_enter Tryd.func28, Tryd.ntmps28
    go_wp2_with fail
    refine HLN.out.mono ?_
    rintro e w1' ⟨rfl, rfl⟩
    go_wp2_with fail
    refine HP.out.mono ?_
    intro e w3 hp
    have hF : HPopPost w base qb ty g c i L x e w3 := by
      have hl := HH.out.1.len
      have hhh := HH.out.2.1
      rw [hl, HH.out.2.2.1] at hhh
      exact pop_fin HH.out.2.2.1 hl (Tn.refl _ _) (by rw [HXX.out]; exact perm_last (by rw [hl]; exact HH.out.2.2.1)) (heap_take (heap_less hhh (by omega))) HXX.out.symm hp
    clear hp
    have he : e = .returned (.iface 64 (itV x)) := by obtain ⟨_, h, _⟩ := hF; exact h
    subst he
    have HF := Lib.hid hF
    clear hF hm hm3 HP HLN
    go_wp2_with fail
    go_ret
    exact HF.out
  · have HS := Lib.hid (qswap H (i := i) (j := n) hi (by omega))
    have hm2 := mSwap H.cell
    have d1 : ((n : Int) == (i : Int)) = false := by rw [beq_eq_false_iff_ne]; omega
    have d2 : ((n : Int) != (i : Int)) = true := by unfold bne; rw [d1]; rfl
    have d3 : ¬ ((n : Int) = (i : Int)) := by omega
    have d4 : ¬ (n = i) := by omega
    have hin : i < n := by omega
    have HIN := Lib.hid hin
    clear H hh hn hN hi e hin
    go_enter Tryd.func28, Tryd.ntmps28
    go_wp2_with fail
    refine HLN.out.mono ?_
    rintro e w1' ⟨rfl, rfl⟩
    go_wp2_with fail
    refine HS.out.mono ?_
    rintro e w1 ⟨rfl, h1, o1⟩
    have H1 := Lib.hid (And.intro h1 o1)
    have HHH : Hid (HeapFrom L (n + 1) 0 ∧ L.length = n + 1) := by
      have hhh := HH.out.2.1
      have hl := HH.out.1.len
      rw [hl, HH.out.2.2.1] at hhh
      exact ⟨hhh, by rw [hl, HH.out.2.2.1]⟩
    have HD := Lib.hid (down_any h1 (n := n) (lo := 0) (i0 := i) (by have := HH.out.2.2.1; omega) (by have := HH.out.2.2.2; omega) (rem_pre HHH.out.1 HHH.out.2 HIN.out) (Nat.zero_le _) (by have := HIN.out; have := HH.out.2.2.2; have := HH.out.2.2.1; omega))
    clear h1 o1 hm hm2 HS HLN
    go_wp2_with fail
    refine HD.out.mono ?_
    rintro e w2 ⟨l2, r, rfl, D2, h2, o2⟩
    clear HD
    cases r with
    | true =>
      have H2 := Lib.hid (And.intro D2 (And.intro h2 (H1.out.2.trans o2)))
      have HP := Lib.hid (qpop_any h2 HH.out.2.2.1 HH.out.2.2.2)
      have hm := mPop ⟨qb, 0, none⟩ w2
      clear D2 h2 o2
      go_wp2_with fail
      refine HP.out.mono ?_
      intro e w3 hp
      have hF : HPopPost w base qb ty g c n L x e w3 := by
        obtain ⟨p1, p2, p3⟩ := rem_end HHH.out.2 HIN.out H2.out.1.perm (H2.out.1.out n (.inr (Nat.le_refl _))) (rem_went HHH.out.1 HHH.out.2 HIN.out H2.out.1)
        rw [← HXX.out] at p1 p2
        exact pop_fin HH.out.2.2.1 HH.out.1.len (only_tn H2.out.2.2) p2 p3 p1 hp
      clear hp
      have he : e = .returned (.iface 64 (itV x)) := by obtain ⟨_, h, _⟩ := hF; exact h
      subst he
      have HF := Lib.hid hF
      clear hF hm HP
      go_wp2_with fail
      go_ret
      exact HF.out
    | false =>
      have H2 := Lib.hid (And.intro D2 (And.intro h2 (H1.out.2.trans o2)))
      have HU := Lib.hid (up_any h2 (n := n) (j0 := i) (by have := HH.out.2.2.1; omega) (by have := HH.out.2.2.2; omega) (rem_up HHH.out.1 HHH.out.2 HIN.out D2))
      clear D2 h2 o2
      go_wp2_with fail
      refine HU.out.mono ?_
      rintro e w4 ⟨l4, rfl, u4, h4, o4⟩
      have H4 := Lib.hid (And.intro u4 (H2.out.2.2.trans o4))
      have HP := Lib.hid (qpop_any h4 HH.out.2.2.1 HH.out.2.2.2)
      have hm := mPop ⟨qb, 0, none⟩ w4
      clear u4 h4 o4 HU
      go_wp2_with fail
      refine HP.out.mono ?_
      intro e w3 hp
      have hF : HPopPost w base qb ty g c n L x e w3 := by
        have e2 := H2.out.1.stay rfl
        obtain ⟨p1, p2, p3⟩ := rem_end HHH.out.2 HIN.out (H4.out.1.perm.trans H2.out.1.perm) ((H4.out.1.out n (Nat.le_refl _)).trans (by rw [e2])) H4.out.1.heap
        rw [← HXX.out] at p1 p2
        exact pop_fin HH.out.2.2.1 HH.out.1.len (only_tn H4.out.2) p2 p3 p1 hp
      clear hp
      have he : e = .returned (.iface 64 (itV x)) := by obtain ⟨_, h, _⟩ := hF; exact h
      subst he
      have HF := Lib.hid hF
      clear hF hm HP
      go_wp2_with fail
      go_ret
      exact HF.out
end Go.Proofs.YtaaegkjbmomjbaaDoor.Po
